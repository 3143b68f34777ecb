package script_test

import (
	"math/rand"
	"slices"
	"strconv"
	"testing"

	"spoor/api"
	"spoor/cluster"
	"spoor/crumb"
	"spoor/script"
	"spoor/seglog"
)

const traces = 4

// someActs are n acts that are likely to lead somewhere.
func someActs(rnd *rand.Rand, agents, n int) []api.Act {
	var list []api.Act
	for i := range n {
		trace, a, b := 1+rnd.Intn(traces), rnd.Intn(agents), rnd.Intn(100)
		var x api.Act
		switch rnd.Intn(20) {
		case 0, 1, 2:
			x = api.Act{Kind: api.ASpan, A: a, T: trace, Text: strconv.Itoa(i)}
		case 3:
			x = api.Act{Kind: api.ACrumb, A: a, B: rnd.Intn(agents), T: trace}
		case 4, 5:
			x = api.Act{Kind: api.ATrigger, A: a, B: rnd.Intn(4), T: trace}
		case 6:
			x = api.Act{Kind: api.ATick, A: a}
		case 7:
			x = api.Act{Kind: api.ACoord}
		case 8:
			x = api.Act{Kind: api.AStore}
		case 9:
			x = api.Act{Kind: []int{api.ADrop, api.ACrash, api.AAgain}[rnd.Intn(3)], B: b}
		case 10, 11:
			x = api.Act{Kind: api.AQuery, T: trace}
		case 12:
			x = api.Act{Kind: rnd.Intn(13), A: rnd.Intn(6), B: rnd.Intn(100001), T: rnd.Intn(70001)}
		default:
			x = api.Act{Kind: api.ADeliver, B: b}
		}
		list = append(list, x)
	}
	return list
}

// watcher sees a script's acts and their answers, and holds them against the promises of the whole.
type watcher struct {
	wrote    map[api.Span]map[int]bool // by span: which agents wrote it
	named    map[[3]int]bool           // agent, trace, whom it names
	class    map[[2]int]int            // of an agent's class: how many triggers were taken
	ticks    map[int]int
	records  map[int]int // by trace: how many were kept when it was asked last
	seen     int
	triggers map[int][]int // by trace: whose triggers were taken
}

func newWatcher() *watcher {
	return &watcher{map[api.Span]map[int]bool{}, map[[3]int]bool{}, map[[2]int]int{}, map[int]int{}, map[int]int{}, 0, map[int][]int{}}
}

func (w *watcher) see(t *testing.T, a api.Act, got cluster.Answer) {
	t.Helper()
	if got.Err != api.OK && (got.N != 0 || got.Text != "") {
		t.Errorf("%v: beside the error %v there is something", a, got)
	}
	if got.Err != api.OK {
		return
	}
	switch a.Kind {
	case api.ASpan:
		s := api.Span{Trace: a.T, Seq: got.N, Text: a.Text}
		if w.wrote[s] == nil {
			w.wrote[s] = map[int]bool{}
		}
		w.wrote[s][a.A] = true
	case api.ACrumb:
		w.named[[3]int{a.A, a.T, a.B}] = true
	case api.ATrigger:
		w.class[[2]int{a.A, a.B}]++
		w.triggers[a.T] = append(w.triggers[a.T], a.A)
		if w.class[[2]int{a.A, a.B}] > 3+w.ticks[a.A] {
			t.Errorf("%v: more than burst, and rate for each tick", a)
		}
	case api.ATick:
		w.ticks[a.A]++
	case api.AQuery:
		if a.T == 0 {
			break
		}
		if got.N < w.records[a.T] || (got.N == 0) != (got.Text == "") {
			t.Errorf("%v: %d, there were %d", a, got.N, w.records[a.T])
		}
		w.records[a.T] = got.N
		if got.N > 0 {
			w.seen++
			w.seeRecord(t, a.T, got.Text)
		}
	}
}

func (w *watcher) seeRecord(t *testing.T, trace int, s string) {
	t.Helper()
	r, e := seglog.Read(s)
	if e != api.OK || r.Trace != trace {
		t.Fatalf("of the trace %d: %v, %v", trace, r, e)
	}
	names := make([][]int, 4)
	var agents []int
	whole := true
	for _, p := range r.Parts {
		agents = append(agents, p.Agent)
		names[p.Agent] = p.Crumbs
		whole = whole && !p.Lost
		for i, x := range p.Spans {
			if !w.wrote[x][p.Agent] || x.Seq != i+1 {
				t.Errorf("agent %d never wrote %v", p.Agent, x)
			}
		}
		for _, c := range p.Crumbs {
			if !w.named[[3]int{p.Agent, trace, c}] {
				t.Errorf("agent %d never named %d", p.Agent, c)
			}
		}
		if p.Lost && len(p.Spans) > 0 {
			t.Errorf("what is lost has spans: %v", p)
		}
	}
	if r.Whole != whole {
		t.Errorf("Whole: %v", r)
	}
	// Its agents are all whom one that asked for it comes to.
	from := slices.ContainsFunc(w.triggers[trace], func(a int) bool { return slices.Equal(crumb.Reach(a, names), agents) })
	if !from {
		t.Errorf("the agents of %v", r)
	}
}

// TestPromisesOfTheWhole: P1, P2, P4 and P5, by what scripts are answered.
func TestPromisesOfTheWhole(t *testing.T) {
	rnd := rand.New(rand.NewSource(201))
	seen := 0
	for range 150 {
		acts := someActs(rnd, 4, 300+rnd.Intn(400))
		s, e := script.Print(acts...)
		if e != api.OK {
			t.Fatal(e)
		}
		answers, e := script.Answers(script.Run(s))
		if e != api.OK || len(answers) != len(acts) {
			t.Fatalf("%d answers, %v", len(answers), e)
		}
		w := newWatcher()
		for i, a := range acts {
			w.see(t, a, answers[i])
		}
		seen += w.seen
		if t.Failed() {
			return
		}
	}
	if seen < 100 {
		t.Errorf("only %d records were asked for", seen)
	}
}

// fair are the acts of fair rounds, with so many messages each.
func fair(agents, rounds, messages int) []api.Act {
	var list []api.Act
	for range rounds {
		for range messages {
			list = append(list, api.Act{Kind: api.ADeliver})
		}
		for a := range agents {
			list = append(list, api.Act{Kind: api.ATick, A: a})
		}
		list = append(list, api.Act{Kind: api.ACoord}, api.Act{Kind: api.AStore})
	}
	return list
}

// TestLive: P3: a trace that is asked for is kept behind as many fair rounds as there are agents, and four.
func TestLive(t *testing.T) {
	rnd := rand.New(rand.NewSource(202))
	tried := 0
	for range 600 {
		acts := []api.Act{{Kind: api.ASpan, T: 7, Text: strconv.Itoa(rnd.Int())}}
		for range rnd.Intn(6) {
			acts = append(acts, api.Act{Kind: api.ACrumb, A: rnd.Intn(4), B: rnd.Intn(4), T: 7}, api.Act{Kind: api.ASpan, A: rnd.Intn(4), T: 7})
		}
		acts = append(acts, api.Act{Kind: api.ATrigger, T: 7, B: rnd.Intn(4)}, api.Act{Kind: api.ADeliver})
		for range rnd.Intn(3) {
			acts = append(acts, api.Act{Kind: api.ADrop, B: rnd.Intn(9)})
		}
		acts = append(acts, fair(4, 8, 60)...)
		acts = append(acts, api.Act{Kind: api.AQuery, T: 7})
		s, e := script.Print(acts...)
		if e != api.OK {
			t.Fatal(e)
		}
		if script.Config(s).Lease < 12 {
			continue
		}
		tried++
		answers, _ := script.Answers(script.Run(s))
		if got := answers[len(answers)-1]; got.N != 1 {
			t.Fatalf("%v: %v", script.Config(s), got)
		}
	}
	if tried < 100 {
		t.Errorf("only %d were tried", tried)
	}
}

// TestWhatIsKeptStays: P4: a crash at each byte of what isn't kept.
func TestWhatIsKeptStays(t *testing.T) {
	for k := range 120 {
		acts := []api.Act{{Kind: api.ASpan, T: 7, Text: "a"}, {Kind: api.ATrigger, T: 7}}
		for range 6 {
			acts = append(acts, api.Act{Kind: api.ADeliver})
		}
		acts = append(acts, api.Act{Kind: api.ACrash, B: k}, api.Act{Kind: api.AQuery, T: 7}, api.Act{Kind: api.ACrash, B: k}, api.Act{Kind: api.AQuery, T: 7})
		s, _ := script.Print(acts...)
		answers, _ := script.Answers(script.Run(s))
		record := seglog.Print(api.Record{Trace: 7, Job: 1, Whole: true, Parts: []api.Part{{Spans: []api.Span{{Trace: 7, Seq: 1, Text: "a"}}}}})
		want := cluster.Answer{}
		if k%(len(record)+1) == len(record) {
			want = cluster.Answer{N: 1, Text: record}
		}
		got := answers[len(answers)-4:]
		if got[0].N != want.N || got[1] != want || got[2].N != want.N || got[3] != want {
			t.Fatalf("crash of %d: %v, not %v", k, got, want)
		}
	}
}
