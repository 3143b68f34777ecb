package cluster_test

import (
	"fmt"
	"math"
	"slices"
	"strings"
	"testing"

	"spoor/api"
	"spoor/cluster"
	"spoor/hash"
	"spoor/msg"
	"spoor/seglog"
)

func config() api.Config {
	return api.Config{Agents: 3, Buffers: 4, Lease: 30, Jobs: 2, Seed: 1, Burst: 3, Rate: 1}
}

func fresh(t *testing.T, c api.Config) *cluster.Cluster {
	t.Helper()
	x, e := cluster.New(c)
	if x == nil || e != api.OK {
		t.Fatalf("New(%v): %v", c, e)
	}
	return x
}

func do(t *testing.T, x *cluster.Cluster, a api.Act, want cluster.Answer) {
	t.Helper()
	if got := x.Do(a); got != want {
		t.Errorf("Do(%v): %v, not %v", a, got, want)
	}
}

// kept is the one record of a trace.
func kept(t *testing.T, x *cluster.Cluster, trace int) api.Record {
	t.Helper()
	list := x.Store().Query(trace, -1)
	if len(list) != 1 {
		t.Fatalf("of the trace %d %d records are kept", trace, len(list))
	}
	do(t, x, api.Act{Kind: api.AQuery, T: trace}, cluster.Answer{N: 1, Text: seglog.Print(list[0])})
	return list[0]
}

func row(trace int, texts ...string) []api.Span {
	var list []api.Span
	for i, s := range texts {
		list = append(list, api.Span{Trace: trace, Seq: i + 1, Text: s})
	}
	return list
}

func TestNew(t *testing.T) {
	spoil := []func(c *api.Config, n int){
		func(c *api.Config, n int) { c.Agents = n }, func(c *api.Config, n int) { c.Buffers = n }, func(c *api.Config, n int) { c.Lease = n }, func(c *api.Config, n int) { c.Jobs = n }, func(c *api.Config, n int) { c.Burst = n }, func(c *api.Config, n int) { c.Rate = n },
	}
	for i, change := range spoil {
		for _, n := range []int{math.MinInt, -1, 0, 5, 9, 17, 1001, math.MaxInt} {
			fits := n >= []int{1, 1, 1, 1, 0, 0}[i] && n <= []int{4, 16, 1000, 8, 1000, 1000}[i]
			c := config()
			change(&c, n)
			x, e := cluster.New(c)
			if (x != nil) != fits || (e == api.OK) != fits || !fits && e != api.ErrArg {
				t.Errorf("New(%v): %v", c, e)
			}
		}
	}
	x := fresh(t, config())
	for i := range 3 {
		if x.Agent(i) == nil {
			t.Errorf("agent %d", i)
		}
	}
	if x.Agent(-1) != nil || x.Agent(3) != nil || x.Agent(math.MaxInt) != nil || x.Coord() == nil || x.Store() == nil || x.Way() != 0 || x.Lost() != 0 {
		t.Error("a new one")
	}
}

func TestErrors(t *testing.T) {
	x := fresh(t, config())
	for _, kind := range []int{math.MinInt, -1, 0, 12, 13, math.MaxInt} {
		do(t, x, api.Act{Kind: kind, A: 9}, cluster.Answer{Err: api.ErrArg})
	}
	for _, kind := range []int{api.ASpan, api.ACrumb, api.ATrigger, api.ATick} {
		for _, a := range []int{math.MinInt, -1, 3, 4, 5, math.MaxInt} {
			do(t, x, api.Act{Kind: kind, A: a}, cluster.Answer{Err: api.ErrRange})
		}
	}
	for _, kind := range []int{api.ADeliver, api.ADrop, api.AAgain} {
		do(t, x, api.Act{Kind: kind, B: 5}, cluster.Answer{Err: api.ErrNone})
	}
	do(t, x, api.Act{Kind: api.ASpan, T: 0}, cluster.Answer{Err: api.ErrArg})
	do(t, x, api.Act{Kind: api.ASpan, T: 7, Text: strings.Repeat("a", 41)}, cluster.Answer{Err: api.ErrArg})
	do(t, x, api.Act{Kind: api.ACrumb, T: 0, B: 1}, cluster.Answer{Err: api.ErrArg})
	do(t, x, api.Act{Kind: api.ACrumb, T: 7, B: 3}, cluster.Answer{Err: api.ErrRange})
	do(t, x, api.Act{Kind: api.ACrumb, T: 7, B: 2}, cluster.Answer{})
	do(t, x, api.Act{Kind: api.ACrumb, T: 7, B: 2}, cluster.Answer{Err: api.ErrOnce})
	do(t, x, api.Act{Kind: api.ATrigger, T: 7, B: 4}, cluster.Answer{Err: api.ErrArg})
	for _, want := range []api.Errno{api.OK, api.OK, api.OK, api.ErrLimit} {
		do(t, x, api.Act{Kind: api.ATrigger, A: 1, T: 7, B: 2}, cluster.Answer{Err: want})
	}
	if x.Way() != 3 {
		t.Errorf("%d messages are on the way", x.Way())
	}
	for _, trace := range []int{0, -1, 7, 65536} {
		do(t, x, api.Act{Kind: api.AQuery, T: trace}, cluster.Answer{})
	}
}

func TestStepByStep(t *testing.T) {
	x := fresh(t, config())
	do(t, x, api.Act{Kind: api.ASpan, A: 1, T: 7, Text: "a"}, cluster.Answer{N: 1})
	do(t, x, api.Act{Kind: api.ASpan, A: 1, T: 7, Text: "b"}, cluster.Answer{N: 2})
	do(t, x, api.Act{Kind: api.ATrigger, A: 1, T: 7, B: 3}, cluster.Answer{})
	do(t, x, api.Act{Kind: api.AAgain, B: 5}, cluster.Answer{N: 4})
	do(t, x, api.Act{Kind: api.ADrop, B: 0}, cluster.Answer{N: 4})
	if x.Way() != 1 || x.Coord().Jobs() != 1 {
		t.Fatal("a Pin is on the way")
	}
	do(t, x, api.Act{Kind: api.ADrop}, cluster.Answer{N: 1})
	do(t, x, api.Act{Kind: api.ADeliver}, cluster.Answer{Err: api.ErrNone})
	do(t, x, api.Act{Kind: api.ACoord}, cluster.Answer{N: 1})
	do(t, x, api.Act{Kind: api.ADeliver, B: -1}, cluster.Answer{N: 1})
	do(t, x, api.Act{Kind: api.ASpan, A: 1, T: 7, Text: "c"}, cluster.Answer{Err: api.ErrState})
	do(t, x, api.Act{Kind: api.ACrumb, A: 1, T: 7, B: 2}, cluster.Answer{Err: api.ErrState})
	do(t, x, api.Act{Kind: api.ADeliver}, cluster.Answer{N: 4})
	// The Manifest to the collector, a Collect to the agent.
	do(t, x, api.Act{Kind: api.ADeliver}, cluster.Answer{N: 5})
	do(t, x, api.Act{Kind: api.ADeliver}, cluster.Answer{N: 1})
	do(t, x, api.Act{Kind: api.AStore}, cluster.Answer{})
	do(t, x, api.Act{Kind: api.ADeliver}, cluster.Answer{N: 5})
	if x.Way() != 0 || x.Store().Pending() != 1 {
		t.Error("the record is written")
	}
	do(t, x, api.Act{Kind: api.AQuery, T: 7}, cluster.Answer{})
	do(t, x, api.Act{Kind: api.AStore}, cluster.Answer{N: 1})
	want := api.Record{Trace: 7, Job: 1, Class: 3, Whole: true, Parts: []api.Part{{Agent: 1, Spans: row(7, "a", "b")}}}
	if got := kept(t, x, 7); !seglog.Same(got, want) {
		t.Errorf("%v is kept", got)
	}
	do(t, x, api.Act{Kind: api.ACrash}, cluster.Answer{N: 1})
	do(t, x, api.Act{Kind: api.ADeliver}, cluster.Answer{N: 4})
	do(t, x, api.Act{Kind: api.ADeliver}, cluster.Answer{N: 1})
	do(t, x, api.Act{Kind: api.ADeliver}, cluster.Answer{N: 4})
	if x.Coord().Jobs() != 0 || x.Agent(1).Used() != 0 || x.Agent(1).Job(7) != 0 || x.Lost() != 0 {
		t.Error("all is let go")
	}
}

func TestFromNameToName(t *testing.T) {
	x := fresh(t, config())
	for i := range 3 {
		x.Do(api.Act{Kind: api.ASpan, A: i, T: 7, Text: fmt.Sprint(i)})
	}
	x.Do(api.Act{Kind: api.ACrumb, A: 0, T: 7, B: 1})
	x.Do(api.Act{Kind: api.ACrumb, A: 1, T: 7, B: 2})
	x.Do(api.Act{Kind: api.ATrigger, A: 0, T: 7, B: 1})
	x.Fair(7)
	want := api.Record{Trace: 7, Job: 1, Class: 1, Whole: true, Parts: []api.Part{{Agent: 0, Spans: row(7, "0"), Crumbs: []int{1}}, {Agent: 1, Spans: row(7, "1"), Crumbs: []int{2}}, {Agent: 2, Spans: row(7, "2")}}}
	if got := kept(t, x, 7); !seglog.Same(got, want) {
		t.Errorf("%v is kept", got)
	}
	x.Do(api.Act{Kind: api.ASpan, A: 2, T: 7, Text: "anew"})
	x.Do(api.Act{Kind: api.ATrigger, A: 2, T: 7, B: 1})
	x.Fair(7)
	list := x.Store().Query(7, -1)
	last := api.Record{Trace: 7, Job: 2, Class: 1, Whole: true, Parts: []api.Part{{Agent: 2, Spans: row(7, "anew")}}}
	if len(list) != 2 || !seglog.Same(list[1], last) {
		t.Fatalf("%v are kept", list)
	}
	do(t, x, api.Act{Kind: api.AQuery, T: 7}, cluster.Answer{N: 2, Text: seglog.Print(last)})
	do(t, x, api.Act{Kind: api.AQuery, T: 8}, cluster.Answer{})
}

func TestWhatIsLost(t *testing.T) {
	c := config()
	c.Buffers = 1
	x := fresh(t, c)
	order := []int{1, 2}
	if hash.Less(c.Seed, 2, 1) {
		order = []int{2, 1}
	}
	do(t, x, api.Act{Kind: api.ASpan, T: order[0], Text: "a"}, cluster.Answer{N: 1})
	do(t, x, api.Act{Kind: api.ASpan, T: order[1], Text: "b"}, cluster.Answer{N: 1})
	do(t, x, api.Act{Kind: api.ASpan, T: order[0], Text: "a"}, cluster.Answer{Err: api.ErrLost})
	x.Do(api.Act{Kind: api.ATrigger, T: order[0]})
	x.Fair(5)
	if got := kept(t, x, order[0]); got.Whole || !got.Parts[0].Lost || len(got.Parts[0].Spans) != 0 {
		t.Errorf("%v is kept", got)
	}
	x.Do(api.Act{Kind: api.ATrigger, T: order[1]})
	x.Do(api.Act{Kind: api.ADeliver})
	x.Do(api.Act{Kind: api.ADeliver})
	do(t, x, api.Act{Kind: api.ASpan, T: 9, Text: "c"}, cluster.Answer{Err: api.ErrFull})
	if !x.Agent(0).Lost(9) {
		t.Error("all buffers are pinned: it is lost")
	}
	x.Fair(5)
	if got := kept(t, x, order[1]); !got.Whole || len(got.Parts[0].Spans) != 1 {
		t.Errorf("%v is kept", got)
	}
}

func TestALeaseThatRanOut(t *testing.T) {
	c := config()
	c.Lease = 2
	x := fresh(t, c)
	x.Do(api.Act{Kind: api.ASpan, T: 7, Text: "a"})
	x.Do(api.Act{Kind: api.ATrigger, T: 7})
	x.Do(api.Act{Kind: api.ADeliver})
	x.Do(api.Act{Kind: api.ADeliver})
	do(t, x, api.Act{Kind: api.ATick}, cluster.Answer{})
	do(t, x, api.Act{Kind: api.ATick, A: 1}, cluster.Answer{})
	do(t, x, api.Act{Kind: api.ATick}, cluster.Answer{N: 1})
	do(t, x, api.Act{Kind: api.ATick}, cluster.Answer{})
	x.Fair(3)
	if x.Coord().Jobs() != 0 || len(x.Store().Records()) != 0 || len(x.Agent(0).Spans(7)) != 1 || x.Agent(0).Job(7) != 0 {
		t.Error("the job let all go")
	}
}

func TestACrashAmidARecord(t *testing.T) {
	for k := range 70 {
		x := fresh(t, config())
		x.Do(api.Act{Kind: api.ASpan, T: 7, Text: "a"})
		x.Do(api.Act{Kind: api.ATrigger, T: 7})
		for x.Store().Pending() == 0 {
			x.Do(api.Act{Kind: api.ADeliver})
		}
		want := api.Record{Trace: 7, Job: 1, Whole: true, Parts: []api.Part{{Spans: row(7, "a")}}}
		n := 0
		if k%(len(seglog.Print(want))+1) == len(seglog.Print(want)) {
			n = 1
		}
		do(t, x, api.Act{Kind: api.ACrash, B: k}, cluster.Answer{N: n})
		x.Fair(4)
		if got := kept(t, x, 7); !seglog.Same(got, want) {
			t.Errorf("crash of %d: %v is kept", k, got)
		}
		if x.Coord().Jobs() != 0 {
			t.Error("the job isn't over")
		}
	}
}

func TestNoRoomOnTheWay(t *testing.T) {
	c := config()
	c.Burst = 1000
	x := fresh(t, c)
	for i := range 203 {
		do(t, x, api.Act{Kind: api.ATrigger, T: 7 + i}, cluster.Answer{})
	}
	if x.Way() != 200 || x.Lost() != 3 {
		t.Errorf("%d on the way, %d lost", x.Way(), x.Lost())
	}
	// The message that comes makes room for one.
	do(t, x, api.Act{Kind: api.ADeliver}, cluster.Answer{N: 4})
	if x.Way() != 200 || x.Lost() != 3 {
		t.Errorf("%d on the way, %d lost", x.Way(), x.Lost())
	}
	do(t, x, api.Act{Kind: api.AAgain}, cluster.Answer{N: 4})
	do(t, x, api.Act{Kind: api.ACoord}, cluster.Answer{N: 2})
	if x.Way() != 200 || x.Lost() != 6 {
		t.Errorf("%d on the way, %d lost", x.Way(), x.Lost())
	}
}

func TestFairEnds(t *testing.T) {
	x := fresh(t, config())
	x.Do(api.Act{Kind: api.ASpan, T: 7, Text: "a"})
	x.Do(api.Act{Kind: api.ATrigger, T: 7})
	x.Fair(0)
	x.Fair(-5)
	x.Fair(math.MinInt)
	if x.Way() != 1 || x.Coord().Jobs() != 0 {
		t.Error("no round")
	}
	x.Fair(100000)
	if x.Way() != 0 || x.Coord().Jobs() != 0 || len(x.Store().Records()) != 1 {
		t.Error("many rounds")
	}
	// Time goes on in each round: a bucket of a thousand needs a thousand.
	c := config()
	c.Burst, c.Rate, c.Lease = 1000, 1, 1000
	for _, rounds := range []int{0, 1, 999, 1000, 5000} {
		x := fresh(t, c)
		for range 1000 {
			x.Do(api.Act{Kind: api.ATrigger, T: 7})
			x.Do(api.Act{Kind: api.ADrop})
		}
		x.Fair(rounds)
		for range min(rounds, 1000) {
			do(t, x, api.Act{Kind: api.ATrigger, T: 7}, cluster.Answer{})
			x.Do(api.Act{Kind: api.ADrop})
		}
		do(t, x, api.Act{Kind: api.ATrigger, T: 7}, cluster.Answer{Err: api.ErrLimit})
	}
}

// fill writes records into the collector till there is no room for a small one.
func fill(x *cluster.Cluster) {
	text := strings.Repeat("a", 40)
	for job, spans := 1000, 24; spans >= 0; job++ {
		r := x.Store().Refused()
		total := max(1, (spans+1)/2)
		for i := range total {
			list := row(9, slices.Repeat([]string{text}, spans)...)[2*i : min(2*i+2, spans)]
			x.Store().Hear(msg.Chunk{Trace: 9, Job: job, Index: i, Total: total, Spans: list})
		}
		x.Store().Hear(msg.Manifest{Trace: 9, Job: job, Parts: []msg.Pinned{{Trace: 9, Job: job, Count: spans}}})
		if x.Store().Refused() > r {
			spans--
		}
	}
}

func TestFairOutlastsLeases(t *testing.T) {
	c := config()
	c.Lease = 1000
	for _, rounds := range []int{900, 1100} {
		x := fresh(t, c)
		fill(x)
		x.Do(api.Act{Kind: api.ASpan, T: 7, Text: strings.Repeat("a", 40)})
		x.Do(api.Act{Kind: api.ATrigger, T: 7})
		x.Fair(rounds)
		// The disk has no room: the job goes on till the lease runs out.
		if held := x.Agent(0).Job(7) == 1; held != (rounds < 1000) || (x.Coord().Jobs() == 1) != held || len(x.Store().Query(7, -1)) != 0 {
			t.Errorf("behind %d rounds it is held for the job %d, there are %d jobs", rounds, x.Agent(0).Job(7), x.Coord().Jobs())
		}
	}
}

func TestNil(t *testing.T) {
	var x *cluster.Cluster
	for kind := range 13 {
		do(t, x, api.Act{Kind: kind}, cluster.Answer{Err: api.ErrNil})
	}
	x.Fair(3)
	if x.Agent(0) != nil || x.Coord() != nil || x.Store() != nil || x.Way() != 0 || x.Lost() != 0 {
		t.Error("a nil Cluster has something")
	}
}
