package seglog_test

import (
	"fmt"
	"math"
	"slices"
	"strings"
	"testing"

	"spoor/api"
	"spoor/hash"
	"spoor/seglog"
	"spoor/span"
	"spoor/wire"
)

func row(trace, n int, text string) []api.Span {
	var list []api.Span
	for i := range n {
		list = append(list, api.Span{Trace: trace, Seq: i + 1, Text: text})
	}
	return list
}

// good: records that may be.
func good() []api.Record {
	return []api.Record{
		{Trace: 1, Job: 1, Whole: true, Parts: []api.Part{{}}},
		{Trace: 65535, Job: 1 << 30, Class: 3, Parts: []api.Part{{Agent: 3, Spans: row(65535, 5, strings.Repeat("\xff", 40)), Crumbs: []int{0, 1, 2, 3}, Lost: true}}},
		{Trace: 7, Job: 2, Class: 1, Whole: true, Parts: []api.Part{{Agent: 0, Spans: row(7, 1, "a")}, {Agent: 1, Crumbs: []int{2}}, {Agent: 2, Spans: row(7, 3, "")}, {Agent: 3, Spans: row(7, 2, "\u20ac\\"), Crumbs: []int{0, 3}}}},
		{Trace: 7, Job: 3, Class: 2, Parts: []api.Part{{Agent: 1, Spans: row(7, 2, "b")}, {Agent: 2, Lost: true}}},
		{Trace: 7, Job: 4, Class: 2, Whole: true, Parts: []api.Part{{Agent: 2, Spans: row(7, 1000, "")}}},
	}
}

func fields(r api.Record) string {
	var w wire.Writer
	w.Int(r.Trace, r.Job, r.Class, len(r.Parts))
	for _, p := range r.Parts {
		w.Int(p.Agent)
		w.Text(span.Print(p.Spans))
		w.Int(len(p.Crumbs))
		for _, c := range p.Crumbs {
			w.Int(c)
		}
		w.Int(map[bool]int{true: 1}[p.Lost])
	}
	return w.String()
}

func framed(text string, n int, sum uint32) string {
	b := []byte{byte(n >> 24), byte(n >> 16), byte(n >> 8), byte(n), byte(sum >> 24), byte(sum >> 16), byte(sum >> 8), byte(sum)}
	return string(b) + text
}

func whole(text string) string { return framed(text, len(text), hash.Check(text)) }

func TestPrintAndRead(t *testing.T) {
	for _, r := range good() {
		if !seglog.Right(r) {
			t.Errorf("%v may be", r.Job)
		}
		s := seglog.Print(r)
		if s != whole(fields(r)) {
			t.Errorf("Print(%v) is %.60q", r.Job, s)
		}
		got, e := seglog.Read(s)
		if e != api.OK || fmt.Sprint(got) != fmt.Sprint(r) {
			t.Errorf("%v is read as %v, %v", r, got, e)
		}
	}
}

func TestSpoilt(t *testing.T) {
	var list []api.Record
	spoil := func(change func(r *api.Record, n int), ns ...int) {
		for _, n := range ns {
			r := good()[2]
			change(&r, n)
			list = append(list, r)
		}
	}
	least, most := math.MinInt, math.MaxInt
	spoil(func(r *api.Record, n int) { r.Job = n }, least, -1, 0, 1<<30+1, most)
	spoil(func(r *api.Record, n int) { r.Class = n }, least, -1, 4, most)
	spoil(func(r *api.Record, n int) { r.Trace = n }, least, -1, 0, 8, 65536, most)
	spoil(func(r *api.Record, n int) { r.Trace = n; r.Parts = []api.Part{{}} }, least, -1, 0, 65536, most)
	spoil(func(r *api.Record, n int) { r.Parts[0].Agent = n }, least, -1, 1, 2, 3, 4, most)
	spoil(func(r *api.Record, n int) { r.Parts[3].Agent = n }, least, -1, 0, 1, 2, 4, most)
	spoil(func(r *api.Record, n int) { r.Parts[0].Crumbs = []int{n} }, least, -1, 4, most)
	spoil(func(r *api.Record, n int) { r.Parts[0].Crumbs = []int{2, n} }, least, -1, 0, 1, 2, 4, most)
	spoil(func(r *api.Record, n int) { r.Parts[2].Spans[1].Seq = n }, least, -1, 0, 1, 3, most)
	spoil(func(r *api.Record, n int) { r.Parts[2].Spans[1].Trace = n }, 0, 6, 8)
	spoil(func(r *api.Record, n int) { r.Parts[2].Spans = r.Parts[2].Spans[n:] }, 1, 2)
	spoil(func(r *api.Record, n int) { r.Parts[n].Lost = true }, 0, 1, 2, 3)
	spoil(func(r *api.Record, n int) { r.Whole = false }, 0)
	spoil(func(r *api.Record, n int) { r.Parts[0].Spans[0].Text = strings.Repeat("a", n) }, 41)
	spoil(func(r *api.Record, n int) { r.Parts[0].Spans = row(7, n, "") }, 1001)
	spoil(func(r *api.Record, n int) { r.Parts = make([]api.Part, n) }, 0, 2)
	spoil(func(r *api.Record, n int) { r.Parts = append(r.Parts, api.Part{Agent: n}) }, 3, 4)
	lost := good()[3]
	lost.Whole = true
	for _, r := range append(list, lost, api.Record{}) {
		if seglog.Right(r) || seglog.Print(r) != "" {
			t.Errorf("%v may not be", r)
		}
	}
}

// long has a text of n bytes: behind the first one each sign of a span's text is a byte more.
func long(n int) api.Record {
	r := api.Record{Trace: 7, Job: 1, Whole: true, Parts: []api.Part{{Agent: 0, Spans: row(7, 1000, "")}, {Agent: 1}}}
	missing := n - len(fields(r))
	for i := range r.Parts[0].Spans {
		k := min(missing, 40)
		r.Parts[0].Spans[i].Text = strings.Repeat("a", k)
		missing -= k
	}
	return r
}

func TestLongTexts(t *testing.T) {
	fits, over := long(60000), long(60001)
	if len(fields(fits)) != 60000 || len(fields(over)) != 60001 || !seglog.Right(fits) || !seglog.Right(over) {
		t.Fatalf("texts of %d and %d bytes", len(fields(fits)), len(fields(over)))
	}
	if s := seglog.Print(fits); s != whole(fields(fits)) {
		t.Errorf("60000 bytes: %d", len(s))
	}
	if s := seglog.Print(over); s != "" {
		t.Errorf("60001 bytes: %d", len(s))
	}
	if got, e := seglog.Read(whole(fields(fits))); e != api.OK || !seglog.Same(got, fits) {
		t.Errorf("60000 bytes: %v", e)
	}
}

func TestReadOfWrongBytes(t *testing.T) {
	for _, r := range good()[:4] {
		s := seglog.Print(r)
		text := fields(r)
		sum := hash.Check(text)
		for i := range s {
			if got, e := seglog.Read(s[:i]); e != api.ErrShort || !seglog.Same(got, api.Record{}) {
				t.Errorf("the first %d bytes: %v", i, e)
			}
			b := []byte(s)
			b[i] ^= 1
			want := api.ErrSum
			if i < 4 && string(b[:4]) > s[:4] {
				want = api.ErrShort
			}
			if got, e := seglog.Read(string(b)); e != want || !seglog.Same(got, api.Record{}) {
				t.Errorf("byte %d is another one: %v", i, e)
			}
		}
		for _, c := range []struct {
			s    string
			want api.Errno
		}{
			{s + "a", api.ErrSum}, {s + s, api.ErrSum}, {framed(text, len(text)+1, sum), api.ErrShort}, {framed(text, len(text)-1, sum), api.ErrSum}, {framed(text[1:], len(text)-1, hash.Check(text[1:])) + "a", api.ErrSum}, {framed(text, 1<<32-1, sum), api.ErrShort}, {framed(text, 1<<31, sum), api.ErrShort},
			{framed(text, len(text), sum+1), api.ErrSum}, {whole(text + "a"), api.ErrForm}, {whole(text + "\u1100"), api.ErrForm}, {whole(text[1:]), api.ErrForm}, {whole(text[:len(text)-3]), api.ErrForm}, {whole(text + text), api.ErrForm},
		} {
			if got, e := seglog.Read(c.s); e != c.want || !seglog.Same(got, api.Record{}) {
				t.Errorf("spoilt: %v, not %v", e, c.want)
			}
		}
	}
	for _, s := range []string{"", "a", "\x00\x00\x00\x00\x00\x00\x00"} {
		if _, e := seglog.Read(s); e != api.ErrShort {
			t.Errorf("Read(%q): %v", s, e)
		}
	}
	if _, e := seglog.Read(whole("")); e != api.ErrForm {
		t.Errorf("no text: %v", e)
	}
}

func TestReadOfRecordsThatMayNotBe(t *testing.T) {
	number := func(list ...int) string {
		var w wire.Writer
		w.Int(list...)
		return w.String()
	}
	spans := func(list ...api.Span) string {
		var w wire.Writer
		w.Text(span.Print(list))
		return w.String()
	}
	part := number(0) + spans() + number(0, 0)
	if got, e := seglog.Read(whole(number(7, 1, 0, 1) + part)); e != api.OK || got.Trace != 7 || !got.Whole {
		t.Fatalf("what may be: %v", e)
	}
	other := number(1) + spans(row(7, 2, "x")...) + number(1, 3, 1)
	if got, e := seglog.Read(whole(number(7, 1, 0, 2) + part + other)); e != api.OK || got.Whole || len(got.Parts) != 2 || !got.Parts[1].Lost {
		t.Fatalf("what may be: %v", e)
	}
	for i, text := range []string{
		number(0, 1, 0, 1) + part, number(65536, 1, 0, 1) + part, number(7, 0, 0, 1) + part, number(7, 1<<30+1, 0, 1) + part, number(7, 1, 4, 1) + part, number(7, 1, 0, 0), number(7, 1, 0, 5) + part + other, number(7, 1, 0, 2) + part + part, number(7, 1, 0, 2) + other + part, number(7, 1, 0, 2) + part,
		number(7, 1, 0, 1, 4) + spans() + number(0, 0), number(7, 1, 0, 1, 0) + spans() + number(0, 2), number(7, 1, 0, 1, 0) + spans() + number(1, 4, 0), number(7, 1, 0, 1, 0) + spans() + number(2, 1, 1, 0), number(7, 1, 0, 1, 0) + spans() + number(2, 1, 0, 0), number(7, 1, 0, 1, 0) + spans() + number(5, 0, 1, 2, 3, 3, 0),
		number(7, 1, 0, 1, 0) + spans(row(8, 1, "")...) + number(0, 0), number(7, 1, 0, 1, 0) + spans(row(7, 3, "")[1:]...) + number(0, 0), number(7, 1, 0, 1, 0, 0) + number(0, 0), number(7, 1, 0, 1, 0) + "\u1101a" + number(0, 0),
	} {
		if got, e := seglog.Read(whole(text)); e != api.ErrForm || !seglog.Same(got, api.Record{}) {
			t.Errorf("text %d: %v", i, e)
		}
	}
}

func TestScan(t *testing.T) {
	list := good()[:4]
	all := ""
	ends := []int{0}
	for _, r := range list {
		all += seglog.Print(r)
		ends = append(ends, len(all))
	}
	check := func(s string, n int) {
		t.Helper()
		got, at := seglog.Scan(s)
		if at != ends[n] || len(got) != n || !slices.EqualFunc(got, list[:n], seglog.Same) {
			t.Errorf("of %d bytes %d records, up to %d; not %d, %d", len(s), len(got), at, n, ends[n])
		}
	}
	for i := range len(all) + 1 {
		n := 0
		for n+1 < len(ends) && ends[n+1] <= i {
			n++
		}
		check(all[:i], n)
		if i < len(all) {
			b := []byte(all)
			b[i] ^= 0x10
			check(string(b), n)
		}
	}
	for n := range 5 {
		check(all[:ends[n]]+whole("no record")+all[ends[n]:], n)
		check(all[:ends[n]]+"\x00"+all[ends[n]:], n)
		check(all[:ends[n]]+whole("")+all[ends[n]:], n)
	}
	check("", 0)
}

func TestSame(t *testing.T) {
	for i, a := range good() {
		for j, b := range good() {
			if seglog.Same(a, b) != (i == j) {
				t.Errorf("Same of %d and %d", i, j)
			}
		}
	}
	for i, change := range []func(r *api.Record){
		func(r *api.Record) { r.Trace = 8 }, func(r *api.Record) { r.Job = 8 }, func(r *api.Record) { r.Class = 3 }, func(r *api.Record) { r.Whole = false }, func(r *api.Record) { r.Parts = r.Parts[:3] }, func(r *api.Record) { r.Parts = append(r.Parts, api.Part{}) }, func(r *api.Record) { r.Parts = nil },
		func(r *api.Record) { r.Parts[1].Agent = 0 }, func(r *api.Record) { r.Parts[3].Lost = true }, func(r *api.Record) { r.Parts[0].Spans = nil }, func(r *api.Record) { r.Parts[2].Spans[2].Text = "z" }, func(r *api.Record) { r.Parts[2].Spans[2].Seq = 4 }, func(r *api.Record) { r.Parts[2].Spans[0].Trace = 8 }, func(r *api.Record) { r.Parts[3].Crumbs = r.Parts[3].Crumbs[:1] }, func(r *api.Record) { r.Parts[3].Crumbs[1] = 2 }, func(r *api.Record) { r.Parts[0].Crumbs = []int{0} },
	} {
		a, b := good()[2], good()[2]
		change(&b)
		if seglog.Same(a, b) || seglog.Same(b, a) {
			t.Errorf("change %d isn't seen", i)
		}
	}
	a := api.Record{Trace: 1, Parts: []api.Part{{}}}
	b := api.Record{Trace: 1, Parts: []api.Part{{Spans: []api.Span{}, Crumbs: []int{}}}}
	if !seglog.Same(a, b) || !seglog.Same(api.Record{}, api.Record{Parts: []api.Part{}}) {
		t.Error("nil and an empty list are one")
	}
}

func TestWhatIsHandedInStays(t *testing.T) {
	r := good()[2]
	r.Parts[3].Crumbs = append(make([]int, 0, 5), 0, 3)
	seglog.Print(r)
	if !seglog.Same(r, good()[2]) || r.Parts[3].Crumbs[:5][2] != 0 {
		t.Error("what was handed in is another one")
	}
}
