package coord_test

import (
	"fmt"
	"math"
	"math/rand"
	"slices"
	"testing"

	"spoor/api"
	"spoor/coord"
	"spoor/job"
	"spoor/msg"
)

func show(list []job.Out) string {
	s := ""
	for _, o := range list {
		s += fmt.Sprintf("%d:%T%v ", o.To, o.M, o.M)
	}
	return s
}

func fresh(t *testing.T, agents, jobs int) *coord.Coord {
	t.Helper()
	c, e := coord.New(api.Config{Agents: agents, Jobs: jobs})
	if c == nil || e != api.OK {
		t.Fatalf("New of %d agents, %d jobs: %v", agents, jobs, e)
	}
	return c
}

// hear checks what the coordinator says to a message.
func hear(t *testing.T, c *coord.Coord, m msg.Message, want ...job.Out) {
	t.Helper()
	if got := c.Hear(m); show(got) != show(want) {
		t.Errorf("Hear(%T %v): %s, not %s", m, m, show(got), show(want))
	}
}

func pin(to, trace, id int) job.Out { return job.Out{To: to, M: msg.Pin{Trace: trace, Job: id}} }

func unpin(to, trace, id int) job.Out { return job.Out{To: to, M: msg.Unpin{Trace: trace, Job: id}} }

func TestNew(t *testing.T) {
	for _, n := range []int{math.MinInt, -1, 0, 9, math.MaxInt} {
		if c, e := coord.New(api.Config{Agents: 1, Jobs: n}); c != nil || e != api.ErrArg {
			t.Errorf("%d jobs: %v", n, e)
		}
		if c, e := coord.New(api.Config{Agents: n, Jobs: 1}); c != nil || e != api.ErrArg {
			t.Errorf("%d agents: %v", n, e)
		}
	}
	if c, e := coord.New(api.Config{Agents: 5, Jobs: 1}); c != nil || e != api.ErrArg {
		t.Errorf("5 agents: %v", e)
	}
	for _, n := range []int{1, 4, 8} {
		c := fresh(t, min(n, 4), n)
		if c.Jobs() != 0 || c.Last() != 0 || c.Refused() != 0 || c.Of(1) != nil || len(c.Tick()) != 0 {
			t.Error("a new one has something")
		}
	}
}

func TestAJobsWay(t *testing.T) {
	c := fresh(t, 3, 2)
	hear(t, c, msg.Trigger{Agent: 0, Trace: 7, Class: 2}, pin(0, 7, 1))
	hear(t, c, msg.Trigger{Agent: 0, Trace: 7, Class: 2})
	hear(t, c, msg.Trigger{Agent: 2, Trace: 7})
	if c.Jobs() != 1 || c.Last() != 1 || c.Refused() != 0 || c.Of(7) == nil || c.Of(8) != nil || c.Of(7).Phase() != job.Pinning {
		t.Error("one job")
	}
	// What it hears changes neither its phase nor whom it visits.
	hear(t, c, msg.Pinned{Agent: 1, Trace: 7, Job: 1})
	hear(t, c, msg.Pinned{Agent: 0, Trace: 7, Job: 2})
	hear(t, c, msg.Stored{Trace: 7, Job: 1})
	hear(t, c, msg.Pinned{Agent: 0, Trace: 7, Job: 1, Crumbs: []int{0, 1, 2}}, pin(1, 7, 1), pin(2, 7, 1))
	hear(t, c, msg.Pinned{Agent: 1, Trace: 7, Job: 1, Crumbs: []int{0}})
	if got := c.Tick(); show(got) != show([]job.Out{pin(2, 7, 1)}) {
		t.Errorf("Tick: %s", show(got))
	}
	m := msg.Manifest{Trace: 7, Job: 1, Class: 2, Parts: []msg.Pinned{{Agent: 0, Trace: 7, Job: 1, Crumbs: []int{0, 1, 2}}, {Agent: 1, Trace: 7, Job: 1, Crumbs: []int{0}}, {Agent: 2, Trace: 7, Job: 1, Count: 3, Lost: true}}}
	collect := msg.Collect{Trace: 7, Job: 1}
	shipping := []job.Out{{To: -1, M: m}, {To: 0, M: collect}, {To: 1, M: collect}, {To: 2, M: collect}}
	hear(t, c, msg.Pinned{Agent: 2, Trace: 7, Job: 1, Count: 3, Lost: true}, shipping...)
	hear(t, c, msg.Pinned{Agent: 2, Trace: 7, Job: 1, Count: 3, Lost: true})
	if got := c.Tick(); show(got) != show(shipping) {
		t.Errorf("Tick: %s", show(got))
	}
	hear(t, c, msg.Stored{Trace: 7, Job: 2})
	hear(t, c, msg.Stored{Trace: 7, Job: 1}, unpin(0, 7, 1), unpin(1, 7, 1), unpin(2, 7, 1))
	hear(t, c, msg.Stored{Trace: 7, Job: 1})
	hear(t, c, msg.Unpinned{Agent: 1, Trace: 7, Job: 1})
	hear(t, c, msg.Unpinned{Agent: 2, Trace: 7, Job: 1})
	if got := c.Tick(); show(got) != show([]job.Out{unpin(0, 7, 1)}) {
		t.Errorf("Tick: %s", show(got))
	}
	j := c.Of(7)
	hear(t, c, msg.Unpinned{Agent: 0, Trace: 7, Job: 1})
	if c.Jobs() != 0 || c.Of(7) != nil || j.Phase() != job.Over || !j.Stored() || len(c.Tick()) != 0 {
		t.Error("one that is over goes")
	}
	hear(t, c, msg.Unpinned{Agent: 0, Trace: 7, Job: 1})
	hear(t, c, msg.Trigger{Agent: 2, Trace: 7}, pin(2, 7, 2))
	hear(t, c, msg.Gone{Agent: 2, Trace: 7, Job: 1})
	hear(t, c, msg.Gone{Agent: 2, Trace: 7, Job: 2}, unpin(2, 7, 2))
}

func TestJobsAtATime(t *testing.T) {
	c := fresh(t, 2, 3)
	hear(t, c, msg.Trigger{Agent: 2, Trace: 9})
	if c.Last() != 0 || c.Refused() != 0 {
		t.Error("a trigger of no agent")
	}
	for i, trace := range []int{9, 1, 5} {
		hear(t, c, msg.Trigger{Agent: i % 2, Trace: trace}, pin(i%2, trace, i+1))
	}
	hear(t, c, msg.Trigger{Agent: 3, Trace: 6})
	hear(t, c, msg.Trigger{Agent: 1, Trace: 5})
	hear(t, c, msg.Trigger{Agent: 1, Trace: 65536})
	hear(t, c, msg.Trigger{Agent: -1, Trace: 6})
	hear(t, c, msg.Trigger{Agent: 1, Trace: 6, Class: 4})
	if c.Refused() != 0 {
		t.Error("what isn't refused for want of room is counted")
	}
	hear(t, c, msg.Trigger{Agent: 1, Trace: 6})
	hear(t, c, msg.Trigger{Agent: 1, Trace: 6})
	if c.Jobs() != 3 || c.Refused() != 2 || c.Last() != 3 || c.Of(6) != nil {
		t.Errorf("refused: %d", c.Refused())
	}
	if got := c.Tick(); show(got) != show([]job.Out{pin(0, 9, 1), pin(1, 1, 2), pin(0, 5, 3)}) {
		t.Errorf("Tick isn't by numbers: %s", show(got))
	}
	hear(t, c, msg.Gone{Agent: 0, Trace: 9, Job: 1}, unpin(0, 9, 1))
	hear(t, c, msg.Unpinned{Agent: 0, Trace: 9, Job: 1})
	hear(t, c, msg.Trigger{Agent: 1, Trace: 6}, pin(1, 6, 4))
	if got := c.Tick(); show(got) != show([]job.Out{pin(1, 1, 2), pin(0, 5, 3), pin(1, 6, 4)}) {
		t.Errorf("Tick isn't by numbers: %s", show(got))
	}
}

func TestOfIsTheJobItself(t *testing.T) {
	c := fresh(t, 2, 3)
	c.Hear(msg.Trigger{Agent: 1, Trace: 9})
	c.Of(9).Hear(msg.Gone{Agent: 1, Trace: 9, Job: 1})
	if got := c.Tick(); show(got) != show([]job.Out{unpin(1, 9, 1)}) {
		t.Errorf("Tick: %s", show(got))
	}
}

func TestWrongMessages(t *testing.T) {
	c := fresh(t, 4, 1)
	for _, m := range []msg.Message{nil, &msg.Trigger{Trace: 7}, (*msg.Trigger)(nil), msg.Trigger{}, msg.Trigger{Trace: 65536}, msg.Trigger{Trace: 7, Class: 4}, msg.Trigger{Trace: 7, Agent: -1}, msg.Pin{Trace: 7, Job: 1}, msg.Stored{Trace: 7, Job: 1}, msg.Pinned{}} {
		hear(t, c, m)
	}
	if c.Jobs() != 0 || c.Last() != 0 || c.Refused() != 0 {
		t.Error("a wrong message did something")
	}
	hear(t, c, msg.Trigger{Agent: 3, Trace: 7}, pin(3, 7, 1))
	hear(t, c, msg.Pinned{Agent: 3, Trace: 7, Job: 1, Count: -1})
}

// TestAgainstJobs drives a coordinator, and jobs beside it.
func TestAgainstJobs(t *testing.T) {
	rnd := rand.New(rand.NewSource(14))
	for range 300 {
		agents, most := 1+rnd.Intn(4), 1+rnd.Intn(4)
		c := fresh(t, agents, most)
		jobs, number := map[int]*job.Job{}, map[int]int{}
		last, refused := 0, 0
		for range 150 {
			trace, agent := 1+rnd.Intn(6), rnd.Intn(4)
			id := number[trace]
			if rnd.Intn(8) == 0 || id == 0 {
				id++
			}
			m := []msg.Message{msg.Trigger{Agent: agent, Trace: trace}, msg.Pinned{Agent: agent, Trace: trace, Job: id, Crumbs: []int{rnd.Intn(4)}}, msg.Pinned{Agent: agent, Trace: trace, Job: id}, msg.Stored{Trace: trace, Job: id}, msg.Unpinned{Agent: agent, Trace: trace, Job: id}, msg.Unpinned{Agent: agent, Trace: trace, Job: id}, msg.Gone{Agent: agent, Trace: trace, Job: id}}[rnd.Intn(6+rnd.Intn(2))]
			var want []job.Out
			j := jobs[trace]
			trigger, is := m.(msg.Trigger)
			switch {
			case is && (agent >= agents || j != nil):
			case is && len(jobs) == most:
				refused++
			case is:
				last++
				jobs[trace], number[trace] = job.New(last, agents, trigger), last
				want = jobs[trace].Outs()
			case j != nil:
				before := fmt.Sprint(j.Phase(), j.Visited())
				j.Hear(m)
				if fmt.Sprint(j.Phase(), j.Visited()) != before {
					want = j.Outs()
				}
				if j.Phase() == job.Over {
					delete(jobs, trace)
				}
			}
			hear(t, c, m, want...)
			var order []int
			for trace := range jobs {
				order = append(order, trace)
			}
			slices.SortFunc(order, func(a, b int) int { return number[a] - number[b] })
			want = nil
			for _, trace := range order {
				want = append(want, jobs[trace].Outs()...)
			}
			if got := c.Tick(); show(got) != show(want) {
				t.Errorf("Tick: %s, not %s", show(got), show(want))
			}
			for trace := range 8 {
				if (c.Of(trace) == nil) != (jobs[trace] == nil) {
					t.Errorf("Of(%d)", trace)
				}
			}
			if c.Jobs() != len(jobs) || c.Last() != last || c.Refused() != refused || c.Jobs() > most {
				t.Errorf("jobs %d, last %d, refused %d", c.Jobs(), c.Last(), c.Refused())
			}
			if t.Failed() {
				return
			}
		}
	}
}

func TestNil(t *testing.T) {
	var c *coord.Coord
	hear(t, c, msg.Trigger{Trace: 7})
	hear(t, c, nil)
	if c.Tick() != nil || c.Jobs() != 0 || c.Of(7) != nil || c.Last() != 0 || c.Refused() != 0 {
		t.Error("a nil Coord has something")
	}
}
