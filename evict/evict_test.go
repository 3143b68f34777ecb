package evict_test

import (
	"math"
	"math/rand"
	"slices"
	"strconv"
	"strings"
	"testing"

	"spoor/api"
	"spoor/evict"
	"spoor/hash"
)

// byWorth: the numbers from 1 to n, what is worth least first.
func byWorth(seed uint64, n int) []int {
	var list []int
	for i := range n {
		list = append(list, i+1)
	}
	slices.SortFunc(list, func(a, b int) int {
		if hash.Less(seed, a, b) {
			return -1
		}
		return 1
	})
	return list
}

func TestNew(t *testing.T) {
	for _, n := range []int{math.MinInt, -1, 0, 17, math.MaxInt} {
		if k, e := evict.New(n, 1); k != nil || e != api.ErrArg {
			t.Errorf("New(%d): %v", n, e)
		}
	}
	for _, n := range []int{1, 16} {
		k, e := evict.New(n, math.MaxUint64)
		if k == nil || e != api.OK || k.Used() != 0 || len(k.Traces()) != 0 || len(k.Evicted()) != 0 || k.Lost(1) || k.Pinned(1) || len(k.Spans(1)) != 0 {
			t.Errorf("New(%d): %v", n, e)
		}
	}
}

func TestOneBuffer(t *testing.T) {
	for seed := uint64(0); seed < 20; seed++ {
		order := byWorth(seed, 2)
		for _, first := range order {
			second := 3 - first
			k, _ := evict.New(1, seed)
			k.Write(first, "a")
			s, e := k.Write(second, "b")
			if second == order[0] {
				if e != api.ErrLost || s != (api.Span{}) {
					t.Errorf("the one that is worth less is written: %v", e)
				}
			} else if e != api.OK || s != (api.Span{Trace: second, Seq: 1, Text: "b"}) {
				t.Errorf("the one that is worth more isn't written: %v", e)
			}
			if !slices.Equal(k.Evicted(), order[:1]) || !k.Lost(order[0]) || k.Lost(order[1]) || !slices.Equal(k.Traces(), order[1:]) || k.Used() != 1 {
				t.Errorf("seed %d: went %v", seed, k.Evicted())
			}
			if _, e := k.Write(order[0], "c"); e != api.ErrLost || len(k.Evicted()) != 1 {
				t.Errorf("a span of one that is lost: %v", e)
			}
			k.Forget(order[0])
			if k.Lost(order[0]) || !slices.Equal(k.Evicted(), order[:1]) {
				t.Error("Forget: it isn't lost any more, but stands in the list")
			}
		}
	}
}

func TestErrorsInOrder(t *testing.T) {
	order := byWorth(3, 3)
	k, _ := evict.New(1, 3)
	long := strings.Repeat("a", 41)
	k.Pin(0)
	k.Pin(65536)
	k.Pin(order[2])
	for _, trace := range []int{math.MinInt, -1, 0, 65536} {
		if _, e := k.Write(trace, ""); e != api.ErrArg {
			t.Errorf("a span of %d: %v", trace, e)
		}
	}
	if _, e := k.Write(order[2], long); e != api.ErrArg {
		t.Errorf("a wrong span of a trace that is pinned: %v", e)
	}
	if s, e := k.Write(order[2], ""); e != api.ErrState || s != (api.Span{}) {
		t.Errorf("a span of a trace that is pinned: %v", e)
	}
	k.Unpin(order[2])
	k.Write(order[2], "")
	k.Write(order[0], "")
	if !k.Lost(order[0]) {
		t.Fatal("the one that is worth least isn't lost")
	}
	k.Pin(order[0])
	if _, e := k.Write(order[0], ""); e != api.ErrLost {
		t.Errorf("a span of a trace that is lost and pinned: %v", e)
	}
	if _, e := k.Write(order[0], long); e != api.ErrArg {
		t.Errorf("a wrong span of a trace that is lost: %v", e)
	}
	if s, e := k.Write(order[2], strings.Repeat("\xff", 40)); e != api.OK || s.Seq != 2 {
		t.Errorf("a text of 40 bytes: %v", e)
	}
	k, _ = evict.New(1, 3)
	if _, e := k.Write(65535, ""); e != api.OK {
		t.Errorf("a span of 65535: %v", e)
	}
}

func TestAllArePinned(t *testing.T) {
	k, _ := evict.New(2, 9)
	k.Write(1, "a")
	k.Write(2, "b")
	k.Pin(1)
	k.Pin(2)
	s, e := k.Write(3, "c")
	if e != api.ErrFull || s != (api.Span{}) || !k.Lost(3) || len(k.Evicted()) != 0 || !slices.Equal(k.Traces(), []int{1, 2}) || k.Used() != 2 {
		t.Errorf("all buffers are pinned: %v, lost %v, went %v", e, k.Lost(3), k.Evicted())
	}
	if _, e := k.Write(3, "c"); e != api.ErrLost {
		t.Errorf("once more: %v", e)
	}
}

func TestTheOneThatGrowsGoes(t *testing.T) {
	// It has buffers itself, all others are pinned: it goes itself, with all it had.
	for seed := uint64(0); seed < 8; seed++ {
		k, _ := evict.New(2, seed)
		k.Write(1, "a")
		k.Pin(1)
		for range 3 {
			k.Write(2, "b")
		}
		if _, e := k.Write(2, "c"); e != api.ErrLost || !k.Lost(2) || !slices.Equal(k.Evicted(), []int{2}) || k.Used() != 1 || len(k.Spans(2)) != 0 {
			t.Errorf("a fourth span without room: %v, went %v", e, k.Evicted())
		}
	}
}

// model is a keeper as lists of spans.
type model struct {
	size         int
	seed         uint64
	list         map[int][]api.Span
	pinned, lost map[int]bool
	went         []int
}

func (m *model) used() int {
	n := 0
	for _, list := range m.list {
		n += (len(list) + 2) / 3
	}
	return n
}

func (m *model) write(trace int, text string) (api.Span, api.Errno) {
	if m.lost[trace] {
		return api.Span{}, api.ErrLost
	}
	if m.pinned[trace] {
		return api.Span{}, api.ErrState
	}
	for len(m.list[trace])%3 == 0 && m.used() == m.size {
		least, some := trace, false
		for other, list := range m.list {
			if len(list) > 0 && !m.pinned[other] {
				some = true
				if hash.Less(m.seed, other, least) {
					least = other
				}
			}
		}
		m.lost[least] = m.lost[least] || some
		if !some {
			m.lost[trace] = true
			return api.Span{}, api.ErrFull
		}
		delete(m.list, least)
		m.went = append(m.went, least)
		if least == trace {
			return api.Span{}, api.ErrLost
		}
	}
	s := api.Span{Trace: trace, Seq: len(m.list[trace]) + 1, Text: text}
	m.list[trace] = append(m.list[trace], s)
	return s, api.OK
}

func (m *model) check(t *testing.T, k *evict.Keeper) {
	t.Helper()
	var traces []int
	for trace := -1; trace <= 10; trace++ {
		if k.Lost(trace) != m.lost[trace] || k.Pinned(trace) != m.pinned[trace] || !slices.Equal(k.Spans(trace), m.list[trace]) {
			t.Fatalf("trace %d: lost %v, pinned %v, %v", trace, k.Lost(trace), k.Pinned(trace), k.Spans(trace))
		}
		if len(m.list[trace]) > 0 {
			traces = append(traces, trace)
		}
	}
	if !slices.Equal(k.Traces(), traces) || k.Used() != m.used() || !slices.Equal(k.Evicted(), m.went) {
		t.Fatalf("traces %v, used %d, went %v", k.Traces(), k.Used(), k.Evicted())
	}
}

func TestAgainstLists(t *testing.T) {
	rnd := rand.New(rand.NewSource(7))
	for range 300 {
		m := &model{1 + rnd.Intn(6), rnd.Uint64(), map[int][]api.Span{}, map[int]bool{}, map[int]bool{}, nil}
		k, _ := evict.New(m.size, m.seed)
		for i := range 150 {
			trace := 1 + rnd.Intn(9)
			switch rnd.Intn(16) {
			case 0, 1:
				trace -= rnd.Intn(3)
				k.Pin(trace)
				m.pinned[trace] = true
			case 2, 3:
				k.Unpin(trace)
				delete(m.pinned, trace)
			case 4:
				k.Forget(trace)
				delete(m.pinned, trace)
				delete(m.lost, trace)
				delete(m.list, trace)
			default:
				want, wantErr := m.write(trace, strconv.Itoa(i))
				if got, e := k.Write(trace, strconv.Itoa(i)); got != want || e != wantErr {
					t.Fatalf("Write: %v, %v, not %v, %v", got, e, want, wantErr)
				}
			}
			m.check(t, k)
		}
	}
}

func TestCoherent(t *testing.T) {
	rnd := rand.New(rand.NewSource(8))
	k, _ := evict.New(5, 77)
	for i := range 4000 {
		trace := 1 + rnd.Intn(40)
		if i%17 == 0 {
			k.Pin(trace)
		} else if i%5 == 0 {
			k.Forget(trace)
		}
		n := len(k.Evicted())
		k.Write(trace, "")
		for _, gone := range k.Evicted()[n:] {
			for _, stays := range k.Traces() {
				if stays != trace && !k.Pinned(stays) && hash.Less(77, stays, gone) {
					t.Fatalf("%d went, but %d, which stays, is worth less", gone, stays)
				}
			}
		}
	}
}

func TestAnswersAreNewMemory(t *testing.T) {
	k, _ := evict.New(1, 0)
	k.Write(1, "a")
	k.Write(2, "b")
	went, spans, traces := k.Evicted(), k.Spans(k.Traces()[0]), k.Traces()
	want := slices.Clone(went)
	went[0], spans[0].Text, traces[0] = 9, "other", 9
	if !slices.Equal(k.Evicted(), want) || k.Traces()[0] == 9 || k.Spans(k.Traces()[0])[0].Text == "other" {
		t.Error("an answer is the keeper's own memory")
	}
}

func TestNil(t *testing.T) {
	var k *evict.Keeper
	if s, e := k.Write(0, "a"); s != (api.Span{}) || e != api.ErrNil {
		t.Errorf("Write: %v", e)
	}
	k.Pin(1)
	k.Unpin(1)
	k.Forget(1)
	if k.Pinned(1) || k.Lost(1) || k.Spans(1) != nil || k.Traces() != nil || k.Used() != 0 || k.Evicted() != nil {
		t.Error("a nil Keeper has something")
	}
}
