package cluster_test

import (
	"math/rand"
	"slices"
	"strconv"
	"testing"

	"spoor/agent"
	"spoor/api"
	"spoor/cluster"
	"spoor/coord"
	"spoor/crumb"
	"spoor/hash"
	"spoor/job"
	"spoor/msg"
	"spoor/seglog"
	"spoor/store"
)

// parcel is a message on the way.
type parcel struct {
	to int
	m  msg.Message
}

// twin is a cluster by the words of the chapter: the same machines, and a list between them.
type twin struct {
	agents []*agent.Agent
	coord  *coord.Coord
	store  *store.Store
	way    []parcel
	lost   int
}

func newTwin(c api.Config) *twin {
	w := &twin{store: store.New()}
	w.coord, _ = coord.New(c)
	for i := range c.Agents {
		a, _ := agent.New(i, c)
		w.agents = append(w.agents, a)
	}
	return w
}

func (w *twin) send(to int, list ...msg.Message) {
	for _, m := range list {
		if len(w.way) == 200 {
			w.lost++
		} else {
			w.way = append(w.way, parcel{to, m})
		}
	}
}

func (w *twin) outs(list []job.Out) int {
	for _, o := range list {
		if o.To < 0 {
			w.send(5, o.M)
		} else {
			w.send(o.To, o.M)
		}
	}
	return len(list)
}

func (w *twin) come(p parcel) {
	if p.to < 4 {
		up, over := w.agents[p.to].Hear(p.m)
		w.send(4, up...)
		w.send(5, over...)
	} else if p.to == 4 {
		w.outs(w.coord.Hear(p.m))
	} else {
		w.send(4, w.store.Hear(p.m)...)
	}
}

func (w *twin) do(a api.Act) (n int, e api.Errno) {
	if a.Kind >= api.ASpan && a.Kind <= api.ATick && (a.A < 0 || a.A >= len(w.agents)) {
		return 0, api.ErrRange
	}
	switch a.Kind {
	case api.ASpan:
		s, e := w.agents[a.A].Span(a.T, a.Text)
		return s.Seq, e
	case api.ACrumb:
		return 0, w.agents[a.A].Crumb(a.T, a.B)
	case api.ATrigger:
		m, e := w.agents[a.A].Trigger(a.T, a.B)
		if e == api.OK {
			w.send(4, m)
		}
		return 0, e
	case api.ATick:
		return len(w.agents[a.A].Tick()), 0
	case api.ACoord:
		return w.outs(w.coord.Tick()), 0
	case api.AStore:
		list := w.store.Tick()
		w.send(4, list...)
		return len(list), 0
	case api.ADeliver, api.ADrop, api.AAgain:
		if len(w.way) == 0 {
			return 0, api.ErrNone
		}
		i := int(uint64(a.B) % uint64(len(w.way)))
		p := w.way[i]
		if a.Kind != api.AAgain {
			w.way = slices.Delete(slices.Clone(w.way), i, i+1)
		}
		if a.Kind != api.ADrop {
			w.come(p)
		}
		return p.to, 0
	case api.ACrash:
		w.store.Crash(a.B)
		return len(w.store.Records()), 0
	}
	return 0, api.ErrArg
}

func (w *twin) fair(rounds int) {
	for range rounds {
		for n := 0; n < 500 && len(w.way) > 0; n++ {
			w.do(api.Act{Kind: api.ADeliver})
		}
		for i := range w.agents {
			w.do(api.Act{Kind: api.ATick, A: i})
		}
		w.do(api.Act{Kind: api.ACoord})
		w.do(api.Act{Kind: api.AStore})
	}
}

const traces = 5

func (w *twin) check(t *testing.T, x *cluster.Cluster) {
	t.Helper()
	if x.Way() != len(w.way) || x.Lost() != w.lost || x.Coord().Jobs() != w.coord.Jobs() || x.Coord().Last() != w.coord.Last() || x.Coord().Refused() != w.coord.Refused() || x.Store().Pending() != w.store.Pending() || x.Store().Refused() != w.store.Refused() {
		t.Fatalf("way %d, lost %d, jobs %d, pending %d; not %d, %d, %d, %d", x.Way(), x.Lost(), x.Coord().Jobs(), x.Store().Pending(), len(w.way), w.lost, w.coord.Jobs(), w.store.Pending())
	}
	for i, b := range w.agents {
		a := x.Agent(i)
		if a.Used() != b.Used() || !slices.Equal(a.Evicted(), b.Evicted()) {
			t.Fatalf("agent %d: used %d, went %v", i, a.Used(), a.Evicted())
		}
		for trace := 1; trace <= traces; trace++ {
			if a.Job(trace) != b.Job(trace) || a.Lost(trace) != b.Lost(trace) || !slices.Equal(a.Spans(trace), b.Spans(trace)) || !slices.Equal(a.Crumbs(trace), b.Crumbs(trace)) {
				t.Fatalf("agent %d, trace %d: job %d, lost %v, %v", i, trace, a.Job(trace), a.Lost(trace), a.Spans(trace))
			}
		}
	}
}

// anAct is one that is likely to lead somewhere.
func anAct(rnd *rand.Rand, agents, i int) api.Act {
	trace, a, b := 1+rnd.Intn(traces), rnd.Intn(agents), rnd.Intn(1000)
	switch rnd.Intn(20) {
	case 0, 1, 2, 3:
		return api.Act{Kind: api.ASpan, A: a, T: trace, Text: strconv.Itoa(i)}
	case 4:
		return api.Act{Kind: api.ACrumb, A: a, B: rnd.Intn(4), T: trace}
	case 5, 6:
		return api.Act{Kind: api.ATrigger, A: a, B: rnd.Intn(4), T: trace}
	case 7:
		return api.Act{Kind: api.ATick, A: a}
	case 8:
		return api.Act{Kind: api.ACoord}
	case 9:
		return api.Act{Kind: api.AStore}
	case 10:
		return api.Act{Kind: api.ADrop, B: b}
	case 11:
		return api.Act{Kind: api.AAgain, B: b}
	case 12:
		if rnd.Intn(6) == 0 {
			return api.Act{Kind: api.ACrash, B: b}
		}
	case 13:
		return api.Act{Kind: rnd.Intn(13), A: rnd.Intn(6), B: rnd.Intn(100000), T: rnd.Intn(70000)}
	}
	return api.Act{Kind: api.ADeliver, B: b}
}

func aConfig(rnd *rand.Rand) api.Config {
	return api.Config{Agents: 1 + rnd.Intn(4), Buffers: 1 + rnd.Intn(8), Lease: 1 + rnd.Intn(20), Jobs: 1 + rnd.Intn(4), Seed: rnd.Uint64(), Burst: rnd.Intn(6), Rate: rnd.Intn(3)}
}

func TestAgainstTwin(t *testing.T) {
	rnd := rand.New(rand.NewSource(19))
	for range 150 {
		c := aConfig(rnd)
		x, w := fresh(t, c), newTwin(c)
		for i := range 400 {
			a := anAct(rnd, c.Agents, i)
			if a.Kind == api.AQuery {
				continue
			}
			n, e := w.do(a)
			do(t, x, a, cluster.Answer{Err: e, N: n})
			if rnd.Intn(100) == 0 {
				rounds := rnd.Intn(3)
				w.fair(rounds)
				x.Fair(rounds)
			}
			w.check(t, x)
		}
		for trace := 1; trace <= traces; trace++ {
			want := cluster.Answer{}
			for _, r := range w.store.Records() {
				if r.Trace == trace {
					want = cluster.Answer{N: want.N + 1, Text: seglog.Print(r)}
				}
			}
			do(t, x, api.Act{Kind: api.AQuery, T: trace}, want)
		}
		if t.Failed() {
			return
		}
	}
}

// TestFairComesToFiveHundred: what a round brings is bounded.
func TestFairComesToFiveHundred(t *testing.T) {
	c := api.Config{Agents: 4, Buffers: 16, Lease: 1000, Jobs: 8, Seed: 3, Burst: 1000, Rate: 1000}
	x, w := fresh(t, c), newTwin(c)
	both := func(a api.Act) {
		n, e := w.do(a)
		do(t, x, a, cluster.Answer{Err: e, N: n})
	}
	for trace := 1; trace <= 4; trace++ {
		for a := range 4 {
			for range 12 {
				both(api.Act{Kind: api.ASpan, A: a, T: trace})
			}
			for b := range 4 {
				both(api.Act{Kind: api.ACrumb, A: a, B: b, T: trace})
			}
		}
		both(api.Act{Kind: api.ATrigger, A: trace % 4, T: trace})
	}
	for range 40 {
		for i := range 40 {
			both(api.Act{Kind: api.ACoord})
			both(api.Act{Kind: api.AAgain, B: i * 7})
		}
		x.Fair(1)
		w.fair(1)
		w.check(t, x)
	}
}

// held is what an agent had when a trace was first pinned there for a job.
type held struct {
	spans  []api.Span
	crumbs []int
	lost   bool
}

type place struct{ agent, trace, job int }

func note(x *cluster.Cluster, agents int, first map[place]held) {
	for i := range agents {
		a := x.Agent(i)
		for trace := 1; trace <= traces; trace++ {
			k := place{i, trace, a.Job(trace)}
			if _, is := first[k]; !is && k.job > 0 {
				first[k] = held{a.Spans(trace), a.Crumbs(trace), a.Lost(trace)}
			}
		}
	}
}

// TestSafe: P19.3, and P2, P4 and P5 of the whole.
func TestSafe(t *testing.T) {
	rnd := rand.New(rand.NewSource(193))
	records := 0
	for range 200 {
		c := aConfig(rnd)
		c.Lease += rnd.Intn(40)
		x := fresh(t, c)
		first, triggers := map[place]held{}, map[int]int{}
		var was []api.Record
		for i := range 600 {
			a := anAct(rnd, c.Agents, i)
			if a.Kind == api.ATick && rnd.Intn(3) > 0 {
				continue
			}
			went := make([]int, c.Agents)
			for j := range went {
				went[j] = len(x.Agent(j).Evicted())
			}
			before := x.Coord().Last()
			x.Do(a)
			if last := x.Coord().Last(); last > before {
				for trace := 1; trace <= traces; trace++ {
					if j := x.Coord().Of(trace); j != nil && triggers[last] == 0 && j.Phase() == job.Pinning && j.Outs()[0].M == (msg.Message(msg.Pin{Trace: trace, Job: last})) {
						triggers[last] = 1 + j.Visited()[0]
					}
				}
			}
			note(x, c.Agents, first)
			for j := range went {
				checkBounds(t, x.Agent(j), c, went[j], a)
			}
			now := x.Store().Records()
			if len(now) < len(was) || !slices.EqualFunc(now[:len(was)], was, seglog.Same) {
				t.Fatal("what was kept doesn't stay")
			}
			was = now
		}
		for _, r := range was {
			checkRecord(t, r, first, triggers[r.Job]-1, c.Agents)
		}
		records += len(was)
		if t.Failed() {
			return
		}
	}
	if records < 100 {
		t.Errorf("only %d records were kept", records)
	}
}

func checkBounds(t *testing.T, a *agent.Agent, c api.Config, went int, act api.Act) {
	t.Helper()
	if a.Used() > c.Buffers {
		t.Errorf("%d buffers of %d are used", a.Used(), c.Buffers)
	}
	for _, gone := range a.Evicted()[went:] {
		for trace := 1; trace <= traces; trace++ {
			if trace != act.T && a.Job(trace) == 0 && len(a.Spans(trace)) > 0 && hash.Less(c.Seed, trace, gone) {
				t.Errorf("%d went, but %d is worth less", gone, trace)
			}
		}
	}
}

func checkRecord(t *testing.T, r api.Record, first map[place]held, from, agents int) {
	t.Helper()
	names := make([][]int, agents)
	var list []int
	whole := true
	for _, p := range r.Parts {
		h, is := first[place{p.Agent, r.Trace, r.Job}]
		if !is || !slices.Equal(h.spans, p.Spans) || !slices.Equal(h.crumbs, p.Crumbs) || h.lost != p.Lost {
			t.Errorf("agent %d of %v: it had %v", p.Agent, r, h)
		}
		names[p.Agent] = p.Crumbs
		list = append(list, p.Agent)
		whole = whole && !h.lost
	}
	if !slices.Equal(list, crumb.Reach(from, names)) || r.Whole != whole {
		t.Errorf("%v: the trigger's agent is %d, whole %v", r, from, whole)
	}
}

// TestLive: P19.4, behind whatever was lost ahead.
func TestLive(t *testing.T) {
	rnd := rand.New(rand.NewSource(194))
	begun := 0
	for round := range 300 {
		c := aConfig(rnd)
		c.Lease, c.Burst = 40+rnd.Intn(900), 1000
		x := fresh(t, c)
		for i := range rnd.Intn(200) {
			a := anAct(rnd, c.Agents, i)
			x.Do(a)
		}
		x.Fair(c.Agents + 8)
		trace := 1 + rnd.Intn(traces)
		for i := range rnd.Intn(12) {
			x.Do(api.Act{Kind: api.ASpan, A: rnd.Intn(c.Agents), T: trace, Text: strconv.Itoa(i)})
			x.Do(api.Act{Kind: api.ACrumb, A: rnd.Intn(c.Agents), B: rnd.Intn(c.Agents), T: trace})
		}
		last, lost, n := x.Coord().Last(), x.Lost(), len(x.Store().Query(trace, -1))
		x.Do(api.Act{Kind: api.ATrigger, A: rnd.Intn(c.Agents), T: trace})
		for x.Coord().Last() == last && x.Way() > 0 {
			x.Do(api.Act{Kind: api.ADeliver})
		}
		if x.Coord().Last() == last {
			continue
		}
		begun++
		if round%2 == 0 {
			for x.Way() > 0 && rnd.Intn(6) > 0 {
				x.Do(api.Act{Kind: api.ADrop, B: rnd.Intn(99)})
			}
		}
		x.Fair(c.Agents + 4)
		if got := len(x.Store().Query(trace, -1)); got != n+1 || x.Lost() != lost {
			t.Fatalf("round %d: %d records, not %d; %v", round, got, n+1, c)
		}
	}
	if begun < 200 {
		t.Errorf("only %d jobs began", begun)
	}
}
