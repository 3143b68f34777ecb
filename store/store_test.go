package store_test

import (
	"fmt"
	"math"
	"math/rand"
	"slices"
	"strings"
	"testing"

	"spoor/api"
	"spoor/assemble"
	"spoor/msg"
	"spoor/seglog"
	"spoor/store"
)

func row(trace, n int, text string) []api.Span {
	var list []api.Span
	for i := range n {
		list = append(list, api.Span{Trace: trace, Seq: i + 1, Text: text})
	}
	return list
}

// messages: what a record's job sends, the manifest first.
func messages(r api.Record) []msg.Message {
	m := msg.Manifest{Trace: r.Trace, Job: r.Job, Class: r.Class}
	var list []msg.Message
	for _, p := range r.Parts {
		n := len(p.Spans)
		m.Parts = append(m.Parts, msg.Pinned{Agent: p.Agent, Trace: r.Trace, Job: r.Job, Count: n, Crumbs: p.Crumbs, Lost: p.Lost})
		total := max(1, (n+1)/2)
		for i := range total {
			list = append(list, msg.Chunk{Agent: p.Agent, Trace: r.Trace, Job: r.Job, Index: i, Total: total, Spans: p.Spans[2*i : min(2*i+2, n)]})
		}
	}
	return append([]msg.Message{m}, list...)
}

func record(trace, job, class, n int) api.Record {
	return api.Record{Trace: trace, Job: job, Class: class, Whole: true, Parts: []api.Part{{Agent: 1, Spans: row(trace, n, "a"), Crumbs: []int{0}}, {Agent: 3}}}
}

func show(list []msg.Message) string {
	s := ""
	for _, m := range list {
		s += fmt.Sprintf("%T%v ", m, m)
	}
	return s
}

func hear(t *testing.T, s *store.Store, list []msg.Message, want ...msg.Message) {
	t.Helper()
	for _, m := range list {
		if got := s.Hear(m); show(got) != show(want) {
			t.Errorf("Hear(%T %v): %s, not %s", m, m, show(got), show(want))
		}
	}
}

func tick(t *testing.T, s *store.Store, want ...msg.Message) {
	t.Helper()
	if got := s.Tick(); show(got) != show(want) {
		t.Errorf("Tick: %s, not %s", show(got), show(want))
	}
}

func check(t *testing.T, s *store.Store, pending, refused int, kept ...api.Record) {
	t.Helper()
	if s.Pending() != pending || s.Refused() != refused || !slices.EqualFunc(s.Records(), kept, seglog.Same) {
		t.Errorf("pending %d, refused %d, %v; not %d, %d, %v", s.Pending(), s.Refused(), s.Records(), pending, refused, kept)
	}
}

func stored(trace, job int) msg.Message { return msg.Stored{Trace: trace, Job: job} }

func TestManifestAndChunks(t *testing.T) {
	s := store.New()
	check(t, s, 0, 0)
	tick(t, s)
	a, b := record(7, 5, 1, 3), record(8, 4, 0, 0)
	list := messages(a)
	hear(t, s, list[:2])
	check(t, s, 0, 0)
	tick(t, s)
	hear(t, s, list[2:])
	check(t, s, 1, 0)
	hear(t, s, list)
	hear(t, s, messages(b))
	check(t, s, 2, 0)
	tick(t, s, stored(7, 5), stored(8, 4))
	check(t, s, 0, 0, a, b)
	tick(t, s)
	hear(t, s, list[:1], stored(7, 5))
	hear(t, s, list[1:])
	hear(t, s, messages(b)[:1], stored(8, 4))
	check(t, s, 0, 0, a, b)
	s.Crash(0)
	check(t, s, 0, 0, a, b)
	hear(t, s, list[:1], stored(7, 5))
	hear(t, s, list[1:])
	check(t, s, 0, 0, a, b)
}

func TestAJobIsKnownByItsNumber(t *testing.T) {
	s := store.New()
	a, other, third := record(7, 5, 1, 3), record(8, 5, 1, 3), record(7, 6, 1, 0)
	// What came of another trace is another thing, as long as the job isn't written.
	hear(t, s, messages(other)[:2])
	hear(t, s, messages(a))
	check(t, s, 1, 0)
	hear(t, s, messages(other))
	check(t, s, 1, 0)
	tick(t, s, stored(7, 5))
	hear(t, s, messages(other)[:1], stored(8, 5))
	hear(t, s, messages(other)[1:])
	hear(t, s, messages(third))
	check(t, s, 1, 0, a)
	s.Crash(0)
	check(t, s, 0, 0, a)
	hear(t, s, messages(other)[:1], stored(8, 5))
	hear(t, s, messages(third))
	tick(t, s, stored(7, 6))
	check(t, s, 0, 0, a, third)
}

func TestWrongMessages(t *testing.T) {
	s := store.New()
	hear(t, s, []msg.Message{nil, (*msg.Chunk)(nil), &msg.Manifest{Trace: 7, Job: 5}, msg.Manifest{Trace: 7, Job: 5}, msg.Chunk{Trace: 7, Job: 5}, msg.Chunk{Trace: 0, Job: 5, Total: 1}, msg.Trigger{Trace: 7}, msg.Pin{Trace: 7, Job: 5}, msg.Pinned{Trace: 7, Job: 5}, msg.Gone{Trace: 7, Job: 5}, msg.Collect{Trace: 7, Job: 5}, msg.Stored{Trace: 7, Job: 5}, msg.Unpin{Trace: 7, Job: 5}, msg.Unpinned{Trace: 7, Job: 5}})
	check(t, s, 0, 0)
	a := record(7, 5, 1, 3)
	hear(t, s, messages(a))
	tick(t, s, stored(7, 5))
	hear(t, s, []msg.Message{msg.Manifest{Trace: 7, Job: 5}, msg.Stored{Trace: 7, Job: 5}, msg.Pinned{Trace: 7, Job: 5}})
	check(t, s, 0, 0, a)
}

func TestQuery(t *testing.T) {
	s := store.New()
	var all []api.Record
	for i, x := range [][2]int{{7, 0}, {8, 1}, {7, 1}, {9, 3}, {7, 0}} {
		all = append(all, record(x[0], i+1, x[1], i))
		hear(t, s, messages(all[i]))
	}
	if len(s.Query(0, -1)) != 0 {
		t.Error("what isn't kept is found")
	}
	s.Tick()
	for trace := -1; trace < 11; trace++ {
		for class := -2; class < 6; class++ {
			var want []api.Record
			for _, r := range all {
				if (trace == 0 || r.Trace == trace) && (class == -1 || r.Class == class) {
					want = append(want, r)
				}
			}
			if got := s.Query(trace, class); !slices.EqualFunc(got, want, seglog.Same) {
				t.Errorf("Query(%d, %d): %v", trace, class, got)
			}
		}
	}
}

func TestRefused(t *testing.T) {
	s := store.New()
	big := record(7, 5, 1, 0)
	for agent := range 3 {
		big.Parts = append(big.Parts[:agent:agent], api.Part{Agent: agent, Spans: row(7, 900, strings.Repeat("\xff", 40))})
	}
	if !seglog.Right(big) || seglog.Print(big) != "" {
		t.Fatal("it isn't too long")
	}
	list := messages(big)
	hear(t, s, list)
	check(t, s, 0, 1)
	// Whatever comes of it: it is looked at anew.
	hear(t, s, list[:2])
	check(t, s, 0, 3)
	hear(t, s, []msg.Message{msg.Chunk{Agent: 3, Trace: 7, Job: 5, Total: 9}})
	check(t, s, 0, 4)
	hear(t, s, []msg.Message{msg.Stored{Trace: 7, Job: 5}, msg.Chunk{Agent: 3, Trace: 8, Job: 5, Total: 9}, msg.Chunk{Agent: 3, Trace: 7, Job: 6, Total: 9}})
	check(t, s, 0, 4)
	tick(t, s)
	s.Crash(3)
	check(t, s, 0, 4)
	hear(t, s, list[1:])
	check(t, s, 0, 4)
	hear(t, s, list[:1])
	check(t, s, 0, 5)
}

func TestAFullDisk(t *testing.T) {
	s := store.New()
	text, n := 0, 0
	var last api.Record
	for {
		last = api.Record{Trace: 7, Job: n + 1, Whole: true, Parts: []api.Part{{Spans: row(7, 24, strings.Repeat("b", 40))}}}
		if text+len(seglog.Print(last)) > 65536 {
			break
		}
		text += len(seglog.Print(last))
		n++
		hear(t, s, messages(last))
	}
	check(t, s, n, 0)
	hear(t, s, messages(last))
	check(t, s, n, 1)
	hear(t, s, messages(last)[3:5])
	check(t, s, n, 3)
	if got := s.Tick(); len(got) != n {
		t.Errorf("Tick: %d", len(got))
	}
	hear(t, s, messages(last)[:1])
	if s.Refused() != 4 || len(s.Records()) != n {
		t.Errorf("refused %d", s.Refused())
	}
	// A small one has room still.
	small := api.Record{Trace: 1, Job: n + 9, Whole: true, Parts: []api.Part{{}}}
	if text+len(seglog.Print(small)) <= 65536 {
		hear(t, s, messages(small))
		tick(t, s, stored(1, n+9))
	}
	// A crash of what isn't kept makes room.
	s = store.New()
	for job := 1; job <= n; job++ {
		last.Job = job
		hear(t, s, messages(last))
	}
	s.Crash(0)
	check(t, s, 0, 0)
	hear(t, s, messages(last))
	tick(t, s, stored(7, n))
	check(t, s, 0, 0, last)
}

// model is a collector by the words of the chapter.
type model struct {
	kept, written []api.Record
	came          map[[2]int]*assemble.Asm
}

func has(list []api.Record, job int) bool {
	return slices.ContainsFunc(list, func(r api.Record) bool { return r.Job == job })
}

func (m *model) hear(x msg.Message) []msg.Message {
	trace, job, _ := msg.Of(x)
	_, isManifest := x.(msg.Manifest)
	if has(m.kept, job) && isManifest {
		return []msg.Message{stored(trace, job)}
	}
	if has(m.kept, job) || has(m.written, job) {
		return nil
	}
	k := [2]int{trace, job}
	if m.came[k] == nil {
		m.came[k] = assemble.New(trace, job)
	}
	m.came[k].Hear(x)
	if r, ok := m.came[k].Record(); ok {
		m.written = append(m.written, r)
	}
	return nil
}

func (m *model) crash(k int) {
	loose := 0
	for _, r := range m.written {
		loose += len(seglog.Print(r))
	}
	left := int(uint64(k) % uint64(loose+1))
	for _, r := range m.written {
		if left -= len(seglog.Print(r)); left < 0 {
			break
		}
		m.kept = append(m.kept, r)
	}
	m.written, m.came = nil, map[[2]int]*assemble.Asm{}
}

func TestAgainstWords(t *testing.T) {
	rnd := rand.New(rand.NewSource(18))
	for range 300 {
		s, m := store.New(), &model{came: map[[2]int]*assemble.Asm{}}
		for range 150 {
			switch rnd.Intn(20) {
			case 0:
				k := []int{rnd.Intn(300), -1 - rnd.Intn(9), math.MinInt, math.MaxInt, 0}[rnd.Intn(5)]
				was := m.kept
				s.Crash(k)
				m.crash(k)
				if got := s.Records(); len(got) < len(was) {
					t.Fatal("what was kept is gone")
				}
			case 1, 2:
				var want []msg.Message
				for _, r := range m.written {
					want = append(want, stored(r.Trace, r.Job))
				}
				m.kept, m.written = append(m.kept, m.written...), nil
				tick(t, s, want...)
			default:
				job := 1 + rnd.Intn(8)
				r := record(6+(job+rnd.Intn(6)/5)%3, job, job%4, job)
				list := messages(r)
				x := list[rnd.Intn(len(list))]
				want := m.hear(x)
				hear(t, s, []msg.Message{x}, want...)
			}
			check(t, s, len(m.written), 0, m.kept...)
			if t.Failed() {
				return
			}
		}
	}
}

func TestACrashAtEachByte(t *testing.T) {
	list := []api.Record{record(1, 1, 0, 2), record(2, 2, 1, 0), record(3, 3, 2, 5)}
	ends := []int{0}
	for _, r := range list {
		ends = append(ends, ends[len(ends)-1]+len(seglog.Print(r)))
	}
	for k := range ends[3] + 1 {
		s := store.New()
		kept := record(9, 9, 0, 1)
		hear(t, s, messages(kept))
		s.Tick()
		for _, r := range list {
			hear(t, s, messages(r))
		}
		s.Crash(k)
		n := 0
		for n < 3 && ends[n+1] <= k {
			n++
		}
		want := append([]api.Record{kept}, list[:n]...)
		check(t, s, 0, 0, want...)
		s.Crash(k)
		check(t, s, 0, 0, want...)
		for i, r := range list {
			if i < n {
				hear(t, s, messages(r)[:1], stored(r.Trace, r.Job))
			} else {
				hear(t, s, messages(r))
			}
		}
		s.Tick()
		check(t, s, 0, 0, append([]api.Record{kept}, list...)...)
	}
}

func TestAnswersAreNewMemory(t *testing.T) {
	s := store.New()
	a := record(7, 5, 1, 3)
	hear(t, s, messages(a))
	s.Tick()
	s.Records()[0].Parts[0].Spans[0].Text = "other"
	s.Query(0, -1)[0].Parts[0].Crumbs[0] = 3
	s.Records()[0].Parts[1].Agent = 2
	check(t, s, 0, 0, a)
}

func TestNil(t *testing.T) {
	var s *store.Store
	hear(t, s, append(messages(record(7, 5, 1, 3)), nil))
	tick(t, s)
	s.Crash(1)
	check(t, s, 0, 0)
	if s.Query(0, -1) != nil {
		t.Error("a nil Store has something")
	}
}
