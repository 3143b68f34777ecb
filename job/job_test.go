package job_test

import (
	"fmt"
	"math"
	"math/rand"
	"slices"
	"testing"

	"spoor/job"
	"spoor/msg"
)

func show(list []job.Out) string {
	s := ""
	for _, o := range list {
		s += fmt.Sprintf("%d:%T%v ", o.To, o.M, o.M)
	}
	return s
}

// outs: one message to each of some agents.
func outs(m msg.Message, agents ...int) []job.Out {
	var list []job.Out
	for _, a := range agents {
		list = append(list, job.Out{To: a, M: m})
	}
	return list
}

func check(t *testing.T, j *job.Job, phase int, visited []int, want []job.Out) {
	t.Helper()
	if j.Phase() != phase || !slices.Equal(j.Visited(), visited) || show(j.Outs()) != show(want) {
		t.Errorf("phase %d, visited %v, says %s; not %d, %v, %s", j.Phase(), j.Visited(), show(j.Outs()), phase, visited, show(want))
	}
}

func pinned(agent int, crumbs ...int) msg.Pinned {
	return msg.Pinned{Agent: agent, Trace: 7, Job: 5, Count: 10 + agent, Crumbs: crumbs, Lost: agent == 2}
}

var (
	pin     = msg.Pin{Trace: 7, Job: 5}
	collect = msg.Collect{Trace: 7, Job: 5}
	unpin   = msg.Unpin{Trace: 7, Job: 5}
	stored  = msg.Stored{Trace: 7, Job: 5}
)

func gone(agent int) msg.Gone         { return msg.Gone{Agent: agent, Trace: 7, Job: 5} }
func unpinned(agent int) msg.Unpinned { return msg.Unpinned{Agent: agent, Trace: 7, Job: 5} }

func TestNew(t *testing.T) {
	good := msg.Trigger{Agent: 1, Trace: 7, Class: 2}
	for _, id := range []int{math.MinInt, -1, 0, 1<<30 + 1, math.MaxInt} {
		if job.New(id, 4, good) != nil {
			t.Errorf("the number %d", id)
		}
	}
	for _, agents := range []int{math.MinInt, -1, 0, 1, 5, math.MaxInt} {
		if job.New(1, agents, good) != nil {
			t.Errorf("%d agents", agents)
		}
	}
	for _, m := range []msg.Trigger{{}, {Trace: 65536}, {Trace: 7, Class: 4}, {Trace: 7, Class: -1}, {Trace: 7, Agent: -1}, {Trace: 7, Agent: 4}} {
		if job.New(1, 4, m) != nil {
			t.Errorf("the trigger %v", m)
		}
	}
	for _, id := range []int{1, 1 << 30} {
		j := job.New(id, 2, good)
		if j == nil {
			t.Fatalf("the number %d", id)
		}
		if m, ok := j.Manifest(); ok || m.Trace != 0 || m.Parts != nil || j.Trace() != 7 || j.Stored() {
			t.Error("a job that begins")
		}
		check(t, j, job.Pinning, []int{1}, outs(msg.Pin{Trace: 7, Job: id}, 1))
	}
	if job.Pinning != 1 || job.Shipping != 2 || job.Freeing != 3 || job.Over != 4 {
		t.Error("the phases")
	}
}

func TestFromNameToName(t *testing.T) {
	j := job.New(5, 4, msg.Trigger{Agent: 2, Trace: 7, Class: 3})
	check(t, j, job.Pinning, []int{2}, outs(pin, 2))
	for _, m := range []msg.Message{nil, &msg.Stored{Trace: 7, Job: 5}, stored, unpinned(2), gone(1), pinned(1), pinned(0, 1), msg.Chunk{Agent: 2, Trace: 7, Job: 5, Total: 1}, msg.Trigger{Agent: 2, Trace: 7}, msg.Pin{Trace: 7, Job: 5}, msg.Manifest{Trace: 7, Job: 5, Parts: []msg.Pinned{pinned(0)}},
		msg.Pinned{Agent: 2, Trace: 7, Job: 4}, msg.Pinned{Agent: 2, Trace: 8, Job: 5}, msg.Gone{Agent: 2, Trace: 7, Job: 6}, msg.Pinned{Agent: 2, Trace: 7, Job: 5, Count: 1001}, msg.Pinned{Agent: 2, Trace: 7, Job: 5, Crumbs: []int{3, 3}}} {
		j.Hear(m)
		check(t, j, job.Pinning, []int{2}, outs(pin, 2))
	}
	j.Hear(pinned(2, 0, 2, 3))
	check(t, j, job.Pinning, []int{0, 2, 3}, outs(pin, 0, 3))
	j.Hear(pinned(2, 1))
	check(t, j, job.Pinning, []int{0, 2, 3}, outs(pin, 0, 3))
	j.Hear(pinned(3, 0))
	check(t, j, job.Pinning, []int{0, 2, 3}, outs(pin, 0))
	j.Hear(pinned(0, 1, 2))
	check(t, j, job.Pinning, []int{0, 1, 2, 3}, outs(pin, 1))
	if _, ok := j.Manifest(); ok {
		t.Error("a manifest ere all are pinned")
	}
	j.Hear(pinned(1))
	m := msg.Manifest{Trace: 7, Job: 5, Class: 3, Parts: []msg.Pinned{pinned(0, 1, 2), pinned(1), pinned(2, 0, 2, 3), pinned(3, 0)}}
	shipping := append(outs(m, -1), outs(collect, 0, 1, 2, 3)...)
	check(t, j, job.Shipping, []int{0, 1, 2, 3}, shipping)
	j.Hear(pinned(1, 2))
	j.Hear(unpinned(1))
	check(t, j, job.Shipping, []int{0, 1, 2, 3}, shipping)
	if got, ok := j.Manifest(); !ok || fmt.Sprint(got) != fmt.Sprint(m) {
		t.Errorf("the manifest is %v", got)
	}
	j.Hear(msg.Stored{Trace: 7, Job: 4})
	if j.Stored() || j.Phase() != job.Shipping {
		t.Error("another job is kept")
	}
	j.Hear(stored)
	check(t, j, job.Freeing, []int{0, 1, 2, 3}, outs(unpin, 0, 1, 2, 3))
	if !j.Stored() {
		t.Error("it is kept")
	}
	j.Hear(unpinned(2))
	j.Hear(unpinned(2))
	j.Hear(gone(1))
	check(t, j, job.Freeing, []int{0, 1, 2, 3}, outs(unpin, 0, 1, 3))
	j.Hear(unpinned(0))
	j.Hear(unpinned(3))
	check(t, j, job.Freeing, []int{0, 1, 2, 3}, outs(unpin, 1))
	j.Hear(unpinned(1))
	check(t, j, job.Over, []int{0, 1, 2, 3}, nil)
	j.Hear(gone(1))
	j.Hear(pinned(1))
	j.Hear(stored)
	check(t, j, job.Over, []int{0, 1, 2, 3}, nil)
	if got, ok := j.Manifest(); !ok || fmt.Sprint(got) != fmt.Sprint(m) || !j.Stored() || j.Trace() != 7 {
		t.Errorf("it is over; the manifest is %v", got)
	}
}

func TestGone(t *testing.T) {
	j := job.New(5, 3, msg.Trigger{Agent: 0, Trace: 7})
	j.Hear(pinned(0, 1))
	j.Hear(gone(2))
	check(t, j, job.Pinning, []int{0, 1}, outs(pin, 1))
	j.Hear(gone(1))
	check(t, j, job.Freeing, []int{0, 1}, outs(unpin, 0, 1))
	if m, ok := j.Manifest(); ok || m.Trace != 0 || m.Parts != nil {
		t.Errorf("it never came to shipping: %v", m)
	}
	j.Hear(pinned(1, 2))
	check(t, j, job.Freeing, []int{0, 1}, outs(unpin, 0, 1))
	if _, ok := j.Manifest(); ok || j.Stored() {
		t.Error("it never came to shipping")
	}
	j.Hear(unpinned(2))
	j.Hear(stored)
	if !j.Stored() {
		t.Error("it is kept, while agents are let go")
	}
	j.Hear(unpinned(0))
	j.Hear(unpinned(1))
	check(t, j, job.Over, []int{0, 1}, nil)
	if _, ok := j.Manifest(); ok {
		t.Error("it never came to shipping")
	}

	j = job.New(5, 3, msg.Trigger{Agent: 0, Trace: 7})
	j.Hear(pinned(0))
	j.Hear(gone(0))
	check(t, j, job.Freeing, []int{0}, outs(unpin, 0))
	if _, ok := j.Manifest(); !ok || j.Stored() {
		t.Error("it came to shipping")
	}
	j.Hear(unpinned(0))
	j.Hear(stored)
	if j.Stored() || j.Phase() != job.Over {
		t.Error("what is over isn't kept any more")
	}

	j = job.New(5, 3, msg.Trigger{Agent: 0, Trace: 7})
	j.Hear(gone(0))
	check(t, j, job.Freeing, []int{0}, outs(unpin, 0))
}

func TestNamesOfNoAgents(t *testing.T) {
	j := job.New(5, 2, msg.Trigger{Agent: 1, Trace: 7})
	j.Hear(pinned(1, 1, 2, 3))
	want := msg.Manifest{Trace: 7, Job: 5, Parts: []msg.Pinned{pinned(1, 1, 2, 3)}}
	check(t, j, job.Shipping, []int{1}, append(outs(want, -1), outs(collect, 1)...))
}

// model is a job by the words of the chapter.
type model struct {
	agents, phase       int
	visited, told, free map[int]bool
	parts               map[int]msg.Pinned
	shipped, stored     bool
}

func (m *model) hear(x msg.Message) {
	agent, _ := msg.Agent(x)
	switch y := x.(type) {
	case msg.Pinned:
		if m.phase == 1 && m.visited[agent] && !m.told[agent] {
			m.told[agent], m.parts[agent] = true, y
			for _, c := range y.Crumbs {
				if c < m.agents {
					m.visited[c] = true
				}
			}
			if len(m.told) == len(m.visited) {
				m.phase, m.shipped = 2, true
			}
		}
	case msg.Gone:
		if m.phase <= 2 && m.visited[agent] {
			m.phase = 3
		}
	case msg.Stored:
		if m.phase == 2 || m.phase == 3 {
			m.phase, m.stored = 3, true
		}
	case msg.Unpinned:
		if m.phase == 3 && m.visited[agent] {
			m.free[agent] = true
			if len(m.free) == len(m.visited) {
				m.phase = 4
			}
		}
	}
}

func (m *model) say() (visited []int, parts []msg.Pinned, list []job.Out) {
	if m.phase == 2 {
		list = append(list, job.Out{To: -1})
	}
	for a := range 4 {
		if !m.visited[a] {
			continue
		}
		visited, parts = append(visited, a), append(parts, m.parts[a])
		switch {
		case m.phase == 1 && !m.told[a]:
			list = append(list, job.Out{To: a, M: pin})
		case m.phase == 2:
			list = append(list, job.Out{To: a, M: collect})
		case m.phase == 3 && !m.free[a]:
			list = append(list, job.Out{To: a, M: unpin})
		}
	}
	return visited, parts, list
}

func TestAgainstWords(t *testing.T) {
	rnd := rand.New(rand.NewSource(13))
	for range 3000 {
		agents := 1 + rnd.Intn(4)
		first := rnd.Intn(agents)
		j := job.New(5, agents, msg.Trigger{Agent: first, Trace: 7, Class: 1})
		m := &model{agents, 1, map[int]bool{first: true}, map[int]bool{}, map[int]bool{}, map[int]msg.Pinned{}, false, false}
		for range 30 {
			a := rnd.Intn(4)
			var crumbs []int
			for c := range 4 {
				if rnd.Intn(3) == 0 {
					crumbs = append(crumbs, c)
				}
			}
			all := []msg.Message{pinned(a, crumbs...), pinned(a, crumbs...), pinned(a, crumbs...), pinned(a, crumbs...), unpinned(a), unpinned(a), unpinned(a), stored, gone(a), msg.Stored{Trace: 7, Job: 4}, msg.Unpinned{Agent: a, Trace: 6, Job: 5}}
			n := len(all)
			if rnd.Intn(3) > 0 {
				n -= 4
			}
			x := all[rnd.Intn(n)]
			j.Hear(x)
			if trace, id, _ := msg.Of(x); trace == 7 && id == 5 {
				m.hear(x)
			}
			visited, parts, list := m.say()
			manifest := msg.Manifest{}
			if m.shipped {
				manifest = msg.Manifest{Trace: 7, Job: 5, Class: 1, Parts: parts}
			}
			if m.phase == 2 {
				list[0].M = manifest
			}
			check(t, j, m.phase, visited, list)
			if got, ok := j.Manifest(); ok != m.shipped || fmt.Sprint(got) != fmt.Sprint(manifest) || j.Stored() != m.stored {
				t.Errorf("manifest %v, %v, stored %v", got, ok, j.Stored())
			}
			if t.Failed() {
				return
			}
		}
	}
}

func TestWhatIsHandedInIsNotKept(t *testing.T) {
	crumbs := []int{1}
	j := job.New(5, 2, msg.Trigger{Trace: 7})
	j.Hear(pinned(0, crumbs...))
	j.Hear(msg.Pinned{Agent: 1, Trace: 7, Job: 5, Crumbs: crumbs})
	crumbs[0] = 3
	a, _ := j.Manifest()
	if a.Parts[0].Crumbs[0] != 1 || a.Parts[1].Crumbs[0] != 1 {
		t.Error("what was handed in is kept")
	}
	a.Parts[0].Crumbs[0] = 3
	a.Parts[1].Agent = 3
	j.Outs()[0].M.(msg.Manifest).Parts[0].Crumbs[0] = 3
	if b, _ := j.Manifest(); b.Parts[0].Crumbs[0] != 1 || b.Parts[1].Agent != 1 {
		t.Error("an answer is the job's own memory")
	}
}

func TestNil(t *testing.T) {
	var j *job.Job
	j.Hear(stored)
	j.Hear(nil)
	if m, ok := j.Manifest(); ok || m.Parts != nil || m.Trace != 0 {
		t.Error("a nil Job's manifest")
	}
	if j.Outs() != nil || j.Phase() != 4 || j.Trace() != 0 || j.Visited() != nil || j.Stored() {
		t.Error("a nil Job has something")
	}
}
