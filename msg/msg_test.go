package msg_test

import (
	"fmt"
	"math"
	"reflect"
	"strings"
	"testing"

	"spoor/api"
	"spoor/hash"
	"spoor/msg"
	"spoor/span"
	"spoor/wire"
)

// stranger fulfils the interface, but is none of the kinds.
type stranger struct{}

func (stranger) Kind() int { panic("nobody asks a stranger") }

// dressed has a message's methods, but is none.
type dressed struct{ msg.Pin }

var forty = strings.Repeat("\x1f", 40)

const maxJob = 1 << 30

// good: messages that may be, of every kind, and at the edges.
func good() []msg.Message {
	spans := []api.Span{{Trace: 65535, Seq: 1 << 31, Text: forty}, {Trace: 65535, Seq: 1, Text: "\xff\u20ac"}}
	part := func(agent int) msg.Pinned { return msg.Pinned{Agent: agent, Trace: 7, Job: 9, Count: agent} }
	return []msg.Message{
		msg.Trigger{Agent: 0, Trace: 1, Class: 0}, msg.Trigger{Agent: 3, Trace: 65535, Class: 3},
		msg.Pin{Trace: 1, Job: 1}, msg.Pin{Trace: 65535, Job: maxJob}, msg.Pin{Trace: 7, Job: 1},
		msg.Pinned{Trace: 1, Job: 1}, msg.Pinned{Agent: 3, Trace: 65535, Job: maxJob, Count: 1000, Crumbs: []int{0, 1, 2, 3}, Lost: true}, msg.Pinned{Agent: 1, Trace: 4, Job: 2, Count: 5, Crumbs: []int{3}}, msg.Pinned{Agent: 1, Trace: 4, Job: 2, Count: 5, Crumbs: []int{0, 3}},
		msg.Gone{Trace: 1, Job: 1}, msg.Gone{Agent: 3, Trace: 65535, Job: maxJob},
		msg.Collect{Trace: 1, Job: 1}, msg.Collect{Trace: 65535, Job: maxJob},
		msg.Chunk{Trace: 1, Job: 1, Total: 1}, msg.Chunk{Agent: 3, Trace: 65535, Job: maxJob, Index: 499, Total: 500, Spans: spans}, msg.Chunk{Agent: 2, Trace: 65535, Job: 5, Index: 1, Total: 3, Spans: spans[:1]},
		msg.Manifest{Trace: 7, Job: 9, Parts: []msg.Pinned{part(0)}}, msg.Manifest{Trace: 7, Job: 9, Class: 3, Parts: []msg.Pinned{part(3)}}, msg.Manifest{Trace: 7, Job: 9, Class: 1, Parts: []msg.Pinned{part(0), part(1), part(2), part(3)}}, msg.Manifest{Trace: 7, Job: 9, Class: 1, Parts: []msg.Pinned{{Agent: 1, Trace: 7, Job: 9, Count: 3, Crumbs: []int{1, 2}, Lost: true}, part(2)}},
		msg.Stored{Trace: 1, Job: 1}, msg.Stored{Trace: 65535, Job: maxJob},
		msg.Unpin{Trace: 1, Job: 1}, msg.Unpin{Trace: 65535, Job: maxJob},
		msg.Unpinned{Trace: 1, Job: 1}, msg.Unpinned{Agent: 3, Trace: 65535, Job: maxJob},
	}
}

// spoilt: messages that may not be.
func spoilt() []msg.Message {
	var list []msg.Message
	for _, n := range []int{math.MinInt, -1, 4, math.MaxInt} {
		list = append(list, msg.Trigger{Agent: n, Trace: 1}, msg.Trigger{Trace: 1, Class: n}, msg.Pinned{Agent: n, Trace: 1, Job: 1}, msg.Gone{Agent: n, Trace: 1, Job: 1}, msg.Chunk{Agent: n, Trace: 1, Job: 1, Total: 1}, msg.Unpinned{Agent: n, Trace: 1, Job: 1},
			msg.Manifest{Trace: 1, Job: 1, Class: n, Parts: []msg.Pinned{{Trace: 1, Job: 1}}}, msg.Manifest{Trace: 1, Job: 1, Parts: []msg.Pinned{{Agent: n, Trace: 1, Job: 1}}}, msg.Pinned{Trace: 1, Job: 1, Crumbs: []int{n}})
	}
	for _, n := range []int{math.MinInt, -1, 0, 65536, math.MaxInt} {
		list = append(list, msg.Trigger{Trace: n})
		list = append(list, ofTraceAndJob(n, 1)...)
	}
	for _, n := range []int{math.MinInt, -1, 0, maxJob + 1, math.MaxInt} {
		list = append(list, ofTraceAndJob(1, n)...)
	}
	for _, n := range []int{math.MinInt, -1, 1001, math.MaxInt} {
		list = append(list, msg.Pinned{Trace: 1, Job: 1, Count: n}, msg.Manifest{Trace: 1, Job: 1, Parts: []msg.Pinned{{Trace: 1, Job: 1, Count: n}}})
	}
	for _, c := range [][]int{{1, 0}, {1, 1}, {0, 1, 2, 3, 3}, {0, 1, 2, 3, 4}, {3, 0, 1}, {0, 2, 1}} {
		list = append(list, msg.Pinned{Trace: 1, Job: 1, Crumbs: c}, msg.Manifest{Trace: 1, Job: 1, Parts: []msg.Pinned{{Trace: 1, Job: 1, Crumbs: c}}})
	}
	for _, c := range [][2]int{{0, 0}, {0, 501}, {500, 501}, {1, 1}, {-1, 1}, {2, 1}, {0, -1}, {-2, -1}, {500, 500}, {math.MinInt, 5}, {math.MinInt, math.MinInt}} {
		list = append(list, msg.Chunk{Trace: 1, Job: 1, Index: c[0], Total: c[1]})
	}
	s := api.Span{Trace: 1, Seq: 1}
	for _, c := range [][]api.Span{{s, s, s}, {{Trace: 2, Seq: 1}}, {s, {Trace: 2, Seq: 2}}, {{Trace: 1}}, {{Trace: 1, Seq: 1<<31 + 1}}, {s, {Trace: 1, Seq: 2, Text: forty + "a"}}, {{}}} {
		list = append(list, msg.Chunk{Trace: 1, Job: 1, Total: 1, Spans: c})
	}
	a, b := msg.Pinned{Agent: 0, Trace: 1, Job: 1}, msg.Pinned{Agent: 1, Trace: 1, Job: 1}
	for _, c := range [][]msg.Pinned{nil, {}, {b, a}, {a, a}, {a, b, b}, {a, {Agent: 1, Trace: 2, Job: 1}}, {{Trace: 1, Job: 2}}, {a, {}}} {
		list = append(list, msg.Manifest{Trace: 1, Job: 1, Parts: c})
	}
	return append(list, nil, stranger{}, &stranger{}, dressed{msg.Pin{Trace: 1, Job: 1}}, &msg.Pin{Trace: 1, Job: 1}, (*msg.Pin)(nil), &msg.Trigger{Trace: 1}, (*msg.Manifest)(nil))
}

// ofTraceAndJob: of every kind that has both a message of them.
func ofTraceAndJob(trace, job int) []msg.Message {
	return []msg.Message{
		msg.Pin{Trace: trace, Job: job}, msg.Pinned{Trace: trace, Job: job}, msg.Gone{Trace: trace, Job: job}, msg.Collect{Trace: trace, Job: job}, msg.Chunk{Trace: trace, Job: job, Total: 1},
		msg.Manifest{Trace: trace, Job: job, Parts: []msg.Pinned{{Trace: trace, Job: job}}}, msg.Stored{Trace: trace, Job: job}, msg.Unpin{Trace: trace, Job: job}, msg.Unpinned{Trace: trace, Job: job},
	}
}

func TestKinds(t *testing.T) {
	for i, m := range []msg.Message{msg.Trigger{}, msg.Pin{}, msg.Pinned{}, msg.Gone{}, msg.Collect{}, msg.Chunk{}, msg.Manifest{}, msg.Stored{}, msg.Unpin{}, msg.Unpinned{}} {
		if m.Kind() != i+1 {
			t.Errorf("the kind of a %T is %d", m, m.Kind())
		}
	}
}

// fields spells a message out by the words of the chapter, without its sum.
func fields(m msg.Message) string {
	var w wire.Writer
	w.Int(m.Kind())
	pinned := func(m msg.Pinned) {
		w.Int(m.Agent, m.Trace, m.Job, m.Count, len(m.Crumbs))
		for _, c := range m.Crumbs {
			w.Int(c)
		}
		if m.Lost {
			w.Int(1)
		} else {
			w.Int(0)
		}
	}
	switch x := m.(type) {
	case msg.Pinned:
		pinned(x)
	case msg.Chunk:
		w.Int(x.Agent, x.Trace, x.Job, x.Index, x.Total)
		w.Text(span.Print(x.Spans))
	case msg.Manifest:
		w.Int(x.Trace, x.Job, x.Class, len(x.Parts))
		for _, p := range x.Parts {
			pinned(p)
		}
	default:
		v := reflect.ValueOf(m)
		for i := range v.NumField() {
			w.Int(int(v.Field(i).Int()))
		}
	}
	return w.String()
}

func sum(s string) string {
	var w wire.Writer
	w.Int(int(hash.Check(s)>>16), int(hash.Check(s)&0xffff))
	return w.String()
}

func TestPrintAndRead(t *testing.T) {
	seen := map[string]bool{}
	for _, m := range good() {
		if !msg.Right(m) {
			t.Errorf("%v may be", m)
		}
		s := msg.Print(m)
		if s != fields(m)+sum(fields(m)) {
			t.Errorf("Print(%v) is %q", m, s)
		}
		if seen[s] {
			t.Errorf("%v has another one's text", m)
		}
		seen[s] = true
		got, e := msg.Read(s)
		if e != api.OK || fmt.Sprintf("%T%v", got, got) != fmt.Sprintf("%T%v", m, m) {
			t.Errorf("%v is read as %v, %v", m, got, e)
		}
	}
	var w wire.Writer
	w.Int(2, 7, 1)
	if got := msg.Print(msg.Pin{Trace: 7, Job: 1}); got != w.String()+sum(w.String()) {
		t.Errorf("the chapter's example is %q", got)
	}
}

func TestSpoilt(t *testing.T) {
	for _, m := range spoilt() {
		if msg.Right(m) || msg.Print(m) != "" {
			t.Errorf("%T %v may not be", m, m)
		}
	}
}

func TestReadOfSpoilt(t *testing.T) {
	for _, m := range spoilt() {
		switch x := m.(type) {
		case nil, stranger, *stranger, dressed, *msg.Pin, *msg.Trigger, *msg.Manifest:
			continue
		case msg.Chunk:
			if len(x.Spans) > 0 && span.Print(x.Spans) == "" {
				continue
			}
		}
		s := fields(m)
		if strings.Contains(fmt.Sprintf("%v", m), "-") {
			// Below 0 is written as 0, which may stand there.
			continue
		}
		if got, e := msg.Read(s + sum(s)); got != nil || e != api.ErrForm {
			t.Errorf("the text of %T %v is read: %v, %v", m, m, got, e)
		}
	}
}

func TestReadOfWrongTexts(t *testing.T) {
	number := func(list ...int) string {
		var w wire.Writer
		w.Int(list...)
		return w.String()
	}
	for _, m := range good() {
		s := msg.Print(m)
		body := fields(m)
		for i := range s {
			if got, e := msg.Read(s[:i]); got != nil || e != api.ErrForm {
				t.Errorf("of %v the first %d bytes: %v, %v", m, i, got, e)
			}
		}
		high, low := int(hash.Check(body)>>16), int(hash.Check(body)&0xffff)
		for _, c := range []struct {
			s    string
			want api.Errno
		}{
			{body + number(high^1, low), api.ErrSum}, {body + number(high, low^1), api.ErrSum}, {body + number(65535-high, 65535-low), api.ErrSum}, {body + number(0, 0), api.ErrSum}, {body + number(65535, 65535), api.ErrSum},
			{body + number(65536, low), api.ErrForm}, {body + number(high, 65536), api.ErrForm}, {body + number(high), api.ErrForm}, {s + number(0), api.ErrForm}, {s + "a", api.ErrForm}, {s + s, api.ErrForm}, {"a" + s, api.ErrForm},
			{body + number(high^1, low, 0), api.ErrForm}, {number(0) + body + number(1, 1), api.ErrForm}, {number(11) + body + number(1, 1), api.ErrForm},
		} {
			if got, e := msg.Read(c.s); got != nil || e != c.want {
				t.Errorf("%v, spoilt: %v, %v, not %v", m, got, e, c.want)
			}
		}
	}
	for _, s := range []string{"", "a", "\xff", number(2), number(2, 7), number(2, 7, 1), number(2, 7, 1, 0), number(2, 0, 1, 0, 0), number(11, 7, 1, 0, 0), number(0, 7, 1, 0, 0), number(3, 0, 7, 1, 0, 0, 2, 0, 0), number(3, 0, 7, 1, 0, 5, 0, 1, 2, 3, 3, 0, 0, 0), number(7, 7, 1, 0, 0, 0, 0)} {
		if got, e := msg.Read(s); got != nil || e != api.ErrForm {
			t.Errorf("Read(%q): %v, %v", s, got, e)
		}
	}
	// Where one field is another one the sum doesn't hold.
	a, b := msg.Print(msg.Pin{Trace: 7, Job: 1}), fields(msg.Pin{Trace: 7, Job: 2})
	if got, e := msg.Read(b + a[len(b):]); got != nil || e != api.ErrSum {
		t.Errorf("another job: %v, %v", got, e)
	}
	// A chunk's spans are a text of its own.
	var w wire.Writer
	w.Int(6, 0, 7, 1, 0, 1)
	w.Text("spans")
	if got, e := msg.Read(w.String() + sum(w.String())); got != nil || e != api.ErrForm {
		t.Errorf("spans that are none: %v, %v", got, e)
	}
}

func TestOfAndAgent(t *testing.T) {
	for _, m := range append(ofTraceAndJob(5, 6), ofTraceAndJob(-1, -2)...) {
		want := reflect.ValueOf(m)
		trace, job, ok := msg.Of(m)
		if int64(trace) != want.FieldByName("Trace").Int() || int64(job) != want.FieldByName("Job").Int() || !ok {
			t.Errorf("Of(%T %v): %d, %d, %v", m, m, trace, job, ok)
		}
	}
	if trace, job, ok := msg.Of(msg.Trigger{Agent: 2, Trace: 5, Class: 1}); trace != 5 || job != 0 || !ok {
		t.Error("Of a Trigger")
	}
	for _, m := range []msg.Message{msg.Trigger{Agent: 2}, msg.Pinned{Agent: 2}, msg.Gone{Agent: 2}, msg.Chunk{Agent: 2}, msg.Unpinned{Agent: 2}} {
		if agent, ok := msg.Agent(m); agent != 2 || !ok {
			t.Errorf("Agent(%T): %d, %v", m, agent, ok)
		}
	}
	for _, m := range []msg.Message{msg.Pin{}, msg.Collect{}, msg.Manifest{}, msg.Stored{}, msg.Unpin{}} {
		if agent, ok := msg.Agent(m); agent != 0 || ok {
			t.Errorf("Agent(%T): %d, %v", m, agent, ok)
		}
	}
	for _, m := range []msg.Message{nil, stranger{}, &stranger{}, dressed{msg.Pin{Trace: 1, Job: 1}}, &msg.Pin{Trace: 1, Job: 1}, (*msg.Pin)(nil), (*msg.Trigger)(nil), &msg.Trigger{Agent: 1, Trace: 1}} {
		if trace, job, ok := msg.Of(m); trace != 0 || job != 0 || ok {
			t.Errorf("Of(%T): %d, %d, %v", m, trace, job, ok)
		}
		if agent, ok := msg.Agent(m); agent != 0 || ok {
			t.Errorf("Agent(%T): %d, %v", m, agent, ok)
		}
	}
}

func TestWhatIsHandedInStays(t *testing.T) {
	crumbs := append(make([]int, 0, 9), 1, 2)
	spans := append(make([]api.Span, 0, 9), api.Span{Trace: 7, Seq: 1})
	parts := append(make([]msg.Pinned, 0, 9), msg.Pinned{Agent: 1, Trace: 7, Job: 1, Crumbs: crumbs})
	for _, m := range []msg.Message{parts[0], msg.Chunk{Trace: 7, Job: 1, Total: 1, Spans: spans}, msg.Manifest{Trace: 7, Job: 1, Parts: parts}} {
		msg.Right(m)
		msg.Print(m)
		msg.Of(m)
		msg.Agent(m)
	}
	if fmt.Sprint(crumbs[:9]) != "[1 2 0 0 0 0 0 0 0]" || spans[:9][1] != (api.Span{}) || parts[:9][1].Trace != 0 {
		t.Error("what was handed in is another one")
	}
}
