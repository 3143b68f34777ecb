package pool_test

import (
	"math"
	"math/rand"
	"slices"
	"strconv"
	"strings"
	"testing"

	"spoor/api"
	"spoor/pool"
)

func TestNew(t *testing.T) {
	for _, n := range []int{math.MinInt, -1, 0, 17, math.MaxInt} {
		if p, e := pool.New(n); p != nil || e != api.ErrArg {
			t.Errorf("New(%d): %v", n, e)
		}
	}
	for n := 1; n <= 16; n++ {
		p, e := pool.New(n)
		if p == nil || e != api.OK || p.Size() != n || p.Free() != n || len(p.Traces()) != 0 || len(p.Spans(1)) != 0 || p.Buffers(1) != 0 || p.Drop(1) != 0 || len(p.Spans(0)) != 0 || p.Buffers(0) != 0 || p.Drop(0) != 0 {
			t.Errorf("New(%d): %v", n, e)
		}
	}
}

func TestWriteOfWrongSpans(t *testing.T) {
	p, _ := pool.New(1)
	long := strings.Repeat("\xff", 41)
	for _, trace := range []int{math.MinInt, -1, 0, 65536, math.MaxInt} {
		if s, e := p.Write(trace, ""); s != (api.Span{}) || e != api.ErrArg {
			t.Errorf("a span of %d: %v", trace, e)
		}
	}
	if s, e := p.Write(1, long); s != (api.Span{}) || e != api.ErrArg || p.Free() != 1 {
		t.Error("a text of 41 bytes")
	}
	if s, e := p.Write(65535, long[:40]); s != (api.Span{Trace: 65535, Seq: 1, Text: long[:40]}) || e != api.OK {
		t.Errorf("a text of 40 bytes: %v", e)
	}
	if s, e := p.Write(1, ""); s != (api.Span{}) || e != api.ErrFull {
		t.Errorf("no buffer is free: %v", e)
	}
	if _, e := p.Write(1, long); e != api.ErrArg {
		t.Errorf("a wrong span, and no buffer free: %v", e)
	}
	if _, e := p.Write(0, ""); e != api.ErrArg {
		t.Errorf("a wrong trace, and no buffer free: %v", e)
	}
}

func TestFourSpans(t *testing.T) {
	p, _ := pool.New(3)
	for i, buffers := range []int{1, 1, 1, 2, 2, 2, 3, 3, 3} {
		s, e := p.Write(7, strconv.Itoa(i))
		if e != api.OK || s != (api.Span{Trace: 7, Seq: i + 1, Text: strconv.Itoa(i)}) {
			t.Fatalf("span %d: %v, %v", i, s, e)
		}
		if p.Buffers(7) != buffers || p.Free() != 3-buffers || len(p.Spans(7)) != i+1 {
			t.Errorf("behind span %d: %d buffers, %d free", i, p.Buffers(7), p.Free())
		}
	}
	if _, e := p.Write(7, ""); e != api.ErrFull {
		t.Errorf("the tenth span: %v", e)
	}
	if p.Drop(8) != 0 || p.Drop(7) != 3 || p.Drop(7) != 0 || p.Free() != 3 {
		t.Error("Drop")
	}
	if s, _ := p.Write(7, "anew"); s.Seq != 1 {
		t.Error("behind Drop numbers begin anew")
	}
}

// model is a pool as lists of spans.
type model struct {
	size int
	list map[int][]api.Span
}

func (m *model) free() int {
	n := m.size
	for _, list := range m.list {
		n -= (len(list) + 2) / 3
	}
	return n
}

func (m *model) write(trace int, text string) (api.Span, api.Errno) {
	list := m.list[trace]
	if len(list)%3 == 0 && m.free() == 0 {
		return api.Span{}, api.ErrFull
	}
	s := api.Span{Trace: trace, Seq: len(list) + 1, Text: text}
	m.list[trace] = append(list, s)
	return s, api.OK
}

func (m *model) check(t *testing.T, p *pool.Pool) {
	t.Helper()
	var traces []int
	for trace := 1; trace <= 5; trace++ {
		list := m.list[trace]
		if got := p.Spans(trace); !slices.Equal(got, list) {
			t.Fatalf("spans of %d: %v, not %v", trace, got, list)
		}
		if got := p.Buffers(trace); got != (len(list)+2)/3 {
			t.Fatalf("%d spans of %d have %d buffers", len(list), trace, got)
		}
		if len(list) > 0 {
			traces = append(traces, trace)
		}
	}
	if !slices.Equal(p.Traces(), traces) || p.Free() != m.free() || p.Size() != m.size {
		t.Fatalf("traces %v, free %d of %d", p.Traces(), p.Free(), p.Size())
	}
}

func TestAgainstLists(t *testing.T) {
	rnd := rand.New(rand.NewSource(6))
	for range 300 {
		m := &model{size: 1 + rnd.Intn(16), list: map[int][]api.Span{}}
		p, _ := pool.New(m.size)
		for i := range 120 {
			trace := 1 + rnd.Intn(5)
			if rnd.Intn(12) == 0 {
				want := (len(m.list[trace]) + 2) / 3
				delete(m.list, trace)
				if got := p.Drop(trace); got != want {
					t.Fatalf("Drop is %d, not %d", got, want)
				}
			} else {
				want, wantErr := m.write(trace, strconv.Itoa(i))
				if got, e := p.Write(trace, strconv.Itoa(i)); got != want || e != wantErr {
					t.Fatalf("Write: %v, %v, not %v, %v", got, e, want, wantErr)
				}
			}
			m.check(t, p)
		}
	}
}

func TestAnswersAreNewMemory(t *testing.T) {
	p, _ := pool.New(2)
	p.Write(7, "a")
	list := p.Spans(7)
	list[0].Text = "other"
	_ = append(list, api.Span{Text: "behind"})
	p.Traces()[0] = 9
	p.Write(7, "b")
	if !slices.Equal(p.Spans(7), []api.Span{{Trace: 7, Seq: 1, Text: "a"}, {Trace: 7, Seq: 2, Text: "b"}}) || !slices.Equal(p.Traces(), []int{7}) {
		t.Error("an answer is the pool's own memory")
	}
}

func TestNil(t *testing.T) {
	var p *pool.Pool
	if s, e := p.Write(1, "a"); s != (api.Span{}) || e != api.ErrNil {
		t.Errorf("Write: %v", e)
	}
	if _, e := p.Write(0, "a"); e != api.ErrNil {
		t.Errorf("Write of a wrong trace: %v", e)
	}
	if p.Spans(1) != nil || p.Buffers(1) != 0 || p.Free() != 0 || p.Size() != 0 || p.Drop(1) != 0 || p.Traces() != nil {
		t.Error("a nil Pool has something")
	}
}
