package agent_test

import (
	"fmt"
	"math"
	"math/rand"
	"slices"
	"strconv"
	"strings"
	"testing"

	"spoor/agent"
	"spoor/api"
	"spoor/evict"
	"spoor/msg"
)

func config() api.Config {
	return api.Config{Agents: 3, Buffers: 4, Lease: 3, Jobs: 2, Seed: 5, Burst: 2, Rate: 1}
}

func fresh(t *testing.T, id int, c api.Config) *agent.Agent {
	t.Helper()
	a, e := agent.New(id, c)
	if a == nil || e != api.OK {
		t.Fatalf("New(%d, %v): %v", id, c, e)
	}
	return a
}

// hear checks what an agent says to a message.
func hear(t *testing.T, a *agent.Agent, m msg.Message, wantUp, wantOver []msg.Message) {
	t.Helper()
	up, over := a.Hear(m)
	if show(up) != show(wantUp) || show(over) != show(wantOver) {
		t.Errorf("Hear(%T %v): %s, %s, not %s, %s", m, m, show(up), show(over), show(wantUp), show(wantOver))
	}
}

func show(list []msg.Message) string {
	s := ""
	for _, m := range list {
		s += fmt.Sprintf("%T%v ", m, m)
	}
	return s
}

func one(m msg.Message) []msg.Message { return []msg.Message{m} }

func TestNew(t *testing.T) {
	for _, id := range []int{math.MinInt, -1, 3, 4, math.MaxInt} {
		if a, e := agent.New(id, config()); a != nil || e != api.ErrArg {
			t.Errorf("New(%d): %v", id, e)
		}
	}
	for _, spoil := range []func(c *api.Config, n int){
		func(c *api.Config, n int) { c.Agents = n }, func(c *api.Config, n int) { c.Buffers = n }, func(c *api.Config, n int) { c.Lease = n }, func(c *api.Config, n int) { c.Burst = n }, func(c *api.Config, n int) { c.Rate = n },
	} {
		for _, n := range []int{math.MinInt, -1, 1001, math.MaxInt} {
			c := config()
			spoil(&c, n)
			if a, e := agent.New(0, c); a != nil || e != api.ErrArg {
				t.Errorf("New of %v: %v", c, e)
			}
		}
	}
	for _, c := range []api.Config{{Agents: 5, Buffers: 4, Lease: 3}, {Buffers: 4, Lease: 3}, {Agents: 1, Buffers: 17, Lease: 3}, {Agents: 1, Lease: 3}, {Agents: 1, Buffers: 1}, {}} {
		if a, e := agent.New(0, c); a != nil || e != api.ErrArg {
			t.Errorf("New of %v: %v", c, e)
		}
	}
	for _, c := range []api.Config{{Agents: 1, Buffers: 1, Lease: 1}, {Agents: 4, Buffers: 16, Lease: 1000, Jobs: -9, Seed: math.MaxUint64, Burst: 1000, Rate: 1000}} {
		fresh(t, c.Agents-1, c)
	}
}

func TestSpanCrumbTrigger(t *testing.T) {
	a := fresh(t, 2, config())
	long := strings.Repeat("a", 41)
	if s, e := a.Span(7, "x"); e != api.OK || s != (api.Span{Trace: 7, Seq: 1, Text: "x"}) {
		t.Errorf("Span: %v, %v", s, e)
	}
	if _, e := a.Span(0, "x"); e != api.ErrArg {
		t.Errorf("Span of 0: %v", e)
	}
	if _, e := a.Span(1, long); e != api.ErrArg {
		t.Errorf("Span of 41 bytes: %v", e)
	}
	for _, x := range []struct {
		trace, other int
		want         api.Errno
	}{{0, 1, api.ErrArg}, {65536, 9, api.ErrArg}, {-1, 1, api.ErrArg}, {7, 3, api.ErrRange}, {7, -1, api.ErrRange}, {7, 2, api.OK}, {7, 0, api.OK}, {7, 2, api.ErrOnce}, {65535, 1, api.OK}} {
		if e := a.Crumb(x.trace, x.other); e != x.want {
			t.Errorf("Crumb(%d, %d): %v", x.trace, x.other, e)
		}
	}
	if !slices.Equal(a.Crumbs(7), []int{0, 2}) || len(a.Crumbs(8)) != 0 || len(a.Spans(7)) != 1 || a.Used() != 1 || a.Job(7) != 0 || a.Lost(7) {
		t.Error("what it tells")
	}
	for _, x := range [][2]int{{0, 0}, {65536, 0}, {-1, 0}, {1, -1}, {1, 4}, {0, 9}} {
		if m, e := a.Trigger(x[0], x[1]); e != api.ErrArg || m != (msg.Trigger{}) {
			t.Errorf("Trigger(%d, %d): %v", x[0], x[1], e)
		}
	}
	for class := range 4 {
		for i, want := range []api.Errno{api.OK, api.OK, api.ErrLimit, api.ErrLimit} {
			m, e := a.Trigger(1+class, class)
			if e != want || e == api.OK && m != (msg.Trigger{Agent: 2, Trace: 1 + class, Class: class}) || e != api.OK && m != (msg.Trigger{}) {
				t.Errorf("Trigger %d of the class %d: %v, %v", i, class, m, e)
			}
		}
		if _, e := a.Trigger(0, class); e != api.ErrArg {
			t.Errorf("a wrong trigger, and too soon: %v", e)
		}
	}
	a.Tick()
	for class := range 4 {
		for i, want := range []api.Errno{api.OK, api.ErrLimit} {
			if _, e := a.Trigger(65535, class); e != want {
				t.Errorf("behind a tick trigger %d of the class %d: %v", i, class, e)
			}
		}
	}
}

func TestPinCollectUnpin(t *testing.T) {
	a := fresh(t, 1, config())
	for i := range 5 {
		a.Span(7, strconv.Itoa(i))
	}
	a.Crumb(7, 2)
	a.Crumb(7, 0)
	spans := a.Spans(7)
	hear(t, a, msg.Collect{Trace: 7, Job: 3}, one(msg.Gone{Agent: 1, Trace: 7, Job: 3}), nil)
	pinned := func(job int) []msg.Message {
		return one(msg.Pinned{Agent: 1, Trace: 7, Job: job, Count: 5, Crumbs: []int{0, 2}})
	}
	hear(t, a, msg.Pin{Trace: 7, Job: 3}, pinned(3), nil)
	if _, e := a.Span(7, "x"); e != api.ErrState {
		t.Errorf("a span of a trace that is held: %v", e)
	}
	if e := a.Crumb(7, 1); e != api.ErrState || a.Crumb(7, 9) != api.ErrState || a.Crumb(8, 1) != api.OK {
		t.Errorf("a crumb of a trace that is held: %v", e)
	}
	chunks := func(job int) []msg.Message {
		return []msg.Message{msg.Chunk{Agent: 1, Trace: 7, Job: job, Index: 0, Total: 3, Spans: spans[:2]}, msg.Chunk{Agent: 1, Trace: 7, Job: job, Index: 1, Total: 3, Spans: spans[2:4]}, msg.Chunk{Agent: 1, Trace: 7, Job: job, Index: 2, Total: 3, Spans: spans[4:]}}
	}
	hear(t, a, msg.Collect{Trace: 7, Job: 3}, nil, chunks(3))
	hear(t, a, msg.Collect{Trace: 7, Job: 3}, nil, chunks(3))
	hear(t, a, msg.Collect{Trace: 7, Job: 4}, one(msg.Gone{Agent: 1, Trace: 7, Job: 4}), nil)
	hear(t, a, msg.Collect{Trace: 7, Job: 2}, one(msg.Gone{Agent: 1, Trace: 7, Job: 2}), nil)
	hear(t, a, msg.Pin{Trace: 7, Job: 2}, nil, nil)
	hear(t, a, msg.Pin{Trace: 7, Job: 3}, pinned(3), nil)
	hear(t, a, msg.Pin{Trace: 7, Job: 5}, pinned(5), nil)
	if a.Job(7) != 5 {
		t.Errorf("it is held for %d", a.Job(7))
	}
	hear(t, a, msg.Unpin{Trace: 7, Job: 4}, one(msg.Unpinned{Agent: 1, Trace: 7, Job: 4}), nil)
	if a.Job(7) != 5 || len(a.Spans(7)) != 5 || len(a.Crumbs(7)) != 2 {
		t.Error("another job is let go, but it isn't held any more")
	}
	hear(t, a, msg.Collect{Trace: 7, Job: 4}, nil, nil)
	hear(t, a, msg.Collect{Trace: 7, Job: 5}, nil, chunks(5))
	hear(t, a, msg.Unpin{Trace: 7, Job: 5}, one(msg.Unpinned{Agent: 1, Trace: 7, Job: 5}), nil)
	if a.Job(7) != 0 || len(a.Spans(7)) != 0 || len(a.Crumbs(7)) != 0 || a.Used() != 0 {
		t.Error("it was let go, but is there")
	}
	hear(t, a, msg.Unpin{Trace: 7, Job: 5}, one(msg.Unpinned{Agent: 1, Trace: 7, Job: 5}), nil)
	hear(t, a, msg.Unpin{Trace: 7, Job: 2}, one(msg.Unpinned{Agent: 1, Trace: 7, Job: 2}), nil)
	hear(t, a, msg.Pin{Trace: 7, Job: 5}, nil, nil)
	hear(t, a, msg.Collect{Trace: 7, Job: 5}, nil, nil)
	hear(t, a, msg.Collect{Trace: 7, Job: 6}, one(msg.Gone{Agent: 1, Trace: 7, Job: 6}), nil)
	if s, e := a.Span(7, "anew"); e != api.OK || s.Seq != 1 {
		t.Errorf("it may be written anew: %v", e)
	}
	hear(t, a, msg.Pin{Trace: 7, Job: 6}, one(msg.Pinned{Agent: 1, Trace: 7, Job: 6, Count: 1}), nil)
	hear(t, a, msg.Pin{Trace: 9, Job: 1}, one(msg.Pinned{Agent: 1, Trace: 9, Job: 1}), nil)
	hear(t, a, msg.Collect{Trace: 9, Job: 1}, nil, one(msg.Chunk{Agent: 1, Trace: 9, Job: 1, Total: 1}))
}

func TestLeases(t *testing.T) {
	a := fresh(t, 0, config())
	a.Span(7, "x")
	a.Crumb(7, 1)
	hear(t, a, msg.Pin{Trace: 7, Job: 4}, one(msg.Pinned{Trace: 7, Job: 4, Count: 1, Crumbs: []int{1}}), nil)
	a.Tick()
	a.Tick()
	// The lease begins anew.
	hear(t, a, msg.Pin{Trace: 7, Job: 4}, one(msg.Pinned{Trace: 7, Job: 4, Count: 1, Crumbs: []int{1}}), nil)
	a.Tick()
	if ended := a.Tick(); len(ended) != 0 || a.Job(7) != 4 {
		t.Errorf("too early: %v", ended)
	}
	hear(t, a, msg.Pin{Trace: 2, Job: 4}, one(msg.Pinned{Trace: 2, Job: 4}), nil)
	if ended := a.Tick(); !slices.Equal(ended, []int{7}) || a.Job(7) != 0 || a.Job(2) != 4 {
		t.Errorf("ended: %v", ended)
	}
	hear(t, a, msg.Pin{Trace: 7, Job: 4}, one(msg.Gone{Trace: 7, Job: 4}), nil)
	hear(t, a, msg.Pin{Trace: 7, Job: 3}, one(msg.Gone{Trace: 7, Job: 3}), nil)
	hear(t, a, msg.Collect{Trace: 7, Job: 4}, one(msg.Gone{Trace: 7, Job: 4}), nil)
	if s, e := a.Span(7, "y"); e != api.OK || s.Seq != 2 || a.Crumb(7, 2) != api.OK {
		t.Errorf("what isn't held any more may grow: %v", e)
	}
	// Let go, but not held: spans and crumbs stay.
	hear(t, a, msg.Unpin{Trace: 7, Job: 4}, one(msg.Unpinned{Trace: 7, Job: 4}), nil)
	if len(a.Spans(7)) != 2 || len(a.Crumbs(7)) != 2 {
		t.Error("what wasn't held was forgotten")
	}
	hear(t, a, msg.Pin{Trace: 7, Job: 4}, nil, nil)
	hear(t, a, msg.Pin{Trace: 7, Job: 5}, one(msg.Pinned{Trace: 7, Job: 5, Count: 2, Crumbs: []int{1, 2}}), nil)
	a.Tick()
	a.Tick()
	if ended := a.Tick(); !slices.Equal(ended, []int{7}) {
		t.Errorf("ended: %v", ended)
	}
	hear(t, a, msg.Pin{Trace: 7, Job: 4}, nil, nil)
	hear(t, a, msg.Pin{Trace: 7, Job: 5}, one(msg.Gone{Trace: 7, Job: 5}), nil)
}

func TestLostTraces(t *testing.T) {
	c := config()
	c.Buffers = 1
	a := fresh(t, 0, c)
	a.Span(1, "a")
	a.Span(2, "b")
	went := a.Evicted()
	if len(went) != 1 || !a.Lost(went[0]) || a.Used() != 1 {
		t.Fatalf("went: %v", went)
	}
	gone, stays := went[0], 3-went[0]
	hear(t, a, msg.Pin{Trace: gone, Job: 1}, one(msg.Pinned{Trace: gone, Job: 1, Lost: true}), nil)
	hear(t, a, msg.Pin{Trace: stays, Job: 2}, one(msg.Pinned{Trace: stays, Job: 2, Count: 1}), nil)
	if _, e := a.Span(9, "c"); e != api.ErrFull || !a.Lost(9) {
		t.Errorf("all are pinned: %v", e)
	}
	if _, e := a.Span(gone, "c"); e != api.ErrLost {
		t.Errorf("a span of a trace that is lost, and held: %v", e)
	}
	hear(t, a, msg.Unpin{Trace: gone, Job: 1}, one(msg.Unpinned{Trace: gone, Job: 1}), nil)
	if a.Lost(gone) {
		t.Error("what was let go isn't lost any more")
	}
}

func TestWrongMessages(t *testing.T) {
	a := fresh(t, 0, config())
	a.Span(7, "x")
	for _, m := range []msg.Message{
		nil, (*msg.Pin)(nil), &msg.Pin{Trace: 7, Job: 1}, msg.Pin{Trace: 0, Job: 1}, msg.Pin{Trace: 7, Job: 0}, msg.Pin{Trace: 7, Job: 1<<30 + 1}, msg.Unpin{Trace: 7}, msg.Unpin{Trace: 7, Job: -1}, msg.Collect{Trace: 65536, Job: 1},
		msg.Trigger{Trace: 7}, msg.Pinned{Trace: 7, Job: 1}, msg.Gone{Trace: 7, Job: 1}, msg.Chunk{Trace: 7, Job: 1, Total: 1}, msg.Manifest{Trace: 7, Job: 1, Parts: []msg.Pinned{{Trace: 7, Job: 1}}}, msg.Stored{Trace: 7, Job: 1}, msg.Unpinned{Trace: 7, Job: 1},
	} {
		hear(t, a, m, nil, nil)
		if a.Job(7) != 0 || len(a.Spans(7)) != 1 {
			t.Fatalf("%T %v did something", m, m)
		}
	}
	hear(t, a, msg.Collect{Trace: 7, Job: 1}, one(msg.Gone{Trace: 7, Job: 1}), nil)
}

// model is an agent by the words of the chapter, over a keeper.
type model struct {
	lease             int
	keeper            *evict.Keeper
	crumbs            map[int][]int
	job, left         map[int]int
	ranOut, greatestU map[int]int
}

func (m *model) hear(x msg.Message) (up, over []msg.Message) {
	trace, job, _ := msg.Of(x)
	gone := one(msg.Gone{Agent: 1, Trace: trace, Job: job})
	switch x.(type) {
	case msg.Pin:
		switch {
		case job <= m.greatestU[trace] || m.job[trace] > job:
			return nil, nil
		case job <= m.ranOut[trace]:
			return gone, nil
		}
		m.job[trace], m.left[trace] = job, m.lease
		m.keeper.Pin(trace)
		slices.Sort(m.crumbs[trace])
		return one(msg.Pinned{Agent: 1, Trace: trace, Job: job, Count: len(m.keeper.Spans(trace)), Crumbs: m.crumbs[trace], Lost: m.keeper.Lost(trace)}), nil
	case msg.Collect:
		switch {
		case m.job[trace] == job:
			list := m.keeper.Spans(trace)
			total := max(1, (len(list)+1)/2)
			for i := range total {
				over = append(over, msg.Chunk{Agent: 1, Trace: trace, Job: job, Index: i, Total: total, Spans: list[2*i : min(2*i+2, len(list))]})
			}
			return nil, over
		case job <= m.greatestU[trace]:
			return nil, nil
		}
		return gone, nil
	case msg.Unpin:
		m.greatestU[trace] = max(job, m.greatestU[trace])
		if m.job[trace] == job {
			delete(m.job, trace)
			delete(m.left, trace)
			delete(m.crumbs, trace)
			m.keeper.Forget(trace)
		}
		return one(msg.Unpinned{Agent: 1, Trace: trace, Job: job}), nil
	}
	return nil, nil
}

func (m *model) tick() (ended []int) {
	for trace := 1; trace < 9; trace++ {
		if m.job[trace] == 0 {
			continue
		}
		if m.left[trace]--; m.left[trace] == 0 {
			ended = append(ended, trace)
			m.ranOut[trace] = max(m.ranOut[trace], m.job[trace])
			delete(m.job, trace)
			m.keeper.Unpin(trace)
		}
	}
	return ended
}

func TestAgainstWords(t *testing.T) {
	rnd := rand.New(rand.NewSource(12))
	for range 300 {
		c := api.Config{Agents: 4, Buffers: 1 + rnd.Intn(5), Lease: 1 + rnd.Intn(6), Seed: rnd.Uint64(), Burst: 1, Rate: 1}
		a := fresh(t, 1, c)
		k, _ := evict.New(c.Buffers, c.Seed)
		m := &model{c.Lease, k, map[int][]int{}, map[int]int{}, map[int]int{}, map[int]int{}, map[int]int{}}
		for i := range 200 {
			trace, job, other := 1+rnd.Intn(5), 1+i/20+rnd.Intn(6), rnd.Intn(4)
			var x msg.Message
			switch rnd.Intn(12) {
			case 0, 1:
				x = msg.Pin{Trace: trace, Job: job}
			case 2:
				x = msg.Collect{Trace: trace, Job: job}
			case 3:
				x = msg.Unpin{Trace: trace, Job: job}
			case 4:
				if got, want := a.Tick(), m.tick(); !slices.Equal(got, want) {
					t.Fatalf("Tick: %v, not %v", got, want)
				}
			case 5:
				want := api.OK
				if m.job[trace] != 0 {
					want = api.ErrState
				} else if slices.Contains(m.crumbs[trace], other) {
					want = api.ErrOnce
				} else {
					m.crumbs[trace] = append(m.crumbs[trace], other)
				}
				if e := a.Crumb(trace, other); e != want {
					t.Fatalf("Crumb: %v, not %v", e, want)
				}
			default:
				want, wantErr := k.Write(trace, strconv.Itoa(i))
				if got, e := a.Span(trace, strconv.Itoa(i)); got != want || e != wantErr {
					t.Fatalf("Span: %v, %v, not %v, %v", got, e, want, wantErr)
				}
			}
			if x != nil {
				up, over := m.hear(x)
				hear(t, a, x, up, over)
			}
			for trace := 1; trace <= 5; trace++ {
				slices.Sort(m.crumbs[trace])
				if a.Job(trace) != m.job[trace] || a.Lost(trace) != k.Lost(trace) || !slices.Equal(a.Spans(trace), k.Spans(trace)) || !slices.Equal(a.Crumbs(trace), m.crumbs[trace]) {
					t.Fatalf("trace %d: job %d, lost %v, %v, %v", trace, a.Job(trace), a.Lost(trace), a.Spans(trace), a.Crumbs(trace))
				}
			}
			if a.Used() != k.Used() || !slices.Equal(a.Evicted(), k.Evicted()) {
				t.Fatalf("used %d, went %v", a.Used(), a.Evicted())
			}
			if t.Failed() {
				return
			}
		}
	}
}

func TestAnswersAreNewMemory(t *testing.T) {
	a := fresh(t, 0, config())
	a.Span(7, "x")
	a.Crumb(7, 1)
	up, _ := a.Hear(msg.Pin{Trace: 7, Job: 1})
	up[0].(msg.Pinned).Crumbs[0] = 9
	_, over := a.Hear(msg.Collect{Trace: 7, Job: 1})
	over[0].(msg.Chunk).Spans[0].Text = "other"
	a.Crumbs(7)[0] = 9
	a.Spans(7)[0].Text = "other"
	if a.Crumbs(7)[0] != 1 || a.Spans(7)[0].Text != "x" {
		t.Error("an answer is the agent's own memory")
	}
}

func TestNil(t *testing.T) {
	var a *agent.Agent
	if s, e := a.Span(0, ""); s != (api.Span{}) || e != api.ErrNil {
		t.Errorf("Span: %v", e)
	}
	if m, e := a.Trigger(0, 9); m != (msg.Trigger{}) || e != api.ErrNil {
		t.Errorf("Trigger: %v", e)
	}
	if e := a.Crumb(0, 9); e != api.ErrNil {
		t.Errorf("Crumb: %v", e)
	}
	hear(t, a, msg.Pin{Trace: 7, Job: 1}, nil, nil)
	hear(t, a, nil, nil, nil)
	if a.Tick() != nil || a.Spans(1) != nil || a.Crumbs(1) != nil || a.Job(1) != 0 || a.Lost(1) || a.Used() != 0 || a.Evicted() != nil {
		t.Error("a nil Agent has something")
	}
}
