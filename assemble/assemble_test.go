package assemble_test

import (
	"fmt"
	"math"
	"math/rand"
	"slices"
	"testing"

	"spoor/api"
	"spoor/assemble"
	"spoor/msg"
	"spoor/seglog"
)

func row(n int) []api.Span {
	var list []api.Span
	for i := range n {
		list = append(list, api.Span{Trace: 7, Seq: i + 1, Text: fmt.Sprint(i)})
	}
	return list
}

// chunks: a row of n spans, two to a chunk.
func chunks(agent, n int) []msg.Message {
	var list []msg.Message
	total := max(1, (n+1)/2)
	for i := range total {
		list = append(list, msg.Chunk{Agent: agent, Trace: 7, Job: 5, Index: i, Total: total, Spans: row(n)[2*i : min(2*i+2, n)]})
	}
	return list
}

func part(agent, count int, lost bool, crumbs ...int) msg.Pinned {
	return msg.Pinned{Agent: agent, Trace: 7, Job: 5, Count: count, Crumbs: crumbs, Lost: lost}
}

func manifest(parts ...msg.Pinned) msg.Message {
	return msg.Manifest{Trace: 7, Job: 5, Class: 2, Parts: parts}
}

func check(t *testing.T, a *assemble.Asm, want api.Record, ok bool, missing ...int) {
	t.Helper()
	got, is := a.Record()
	if is != ok || !seglog.Same(got, want) || !slices.Equal(a.Missing(), missing) {
		t.Errorf("%v, %v, missing %v; not %v, %v, %v", got, is, a.Missing(), want, ok, missing)
	}
}

func hear(t *testing.T, a *assemble.Asm, want bool, list ...msg.Message) {
	t.Helper()
	for _, m := range list {
		if got := a.Hear(m); got != want {
			t.Errorf("Hear(%T %v): %v", m, m, got)
		}
	}
}

func TestARecord(t *testing.T) {
	a := assemble.New(7, 5)
	check(t, a, api.Record{}, false)
	hear(t, a, true, chunks(2, 5)...)
	check(t, a, api.Record{}, false)
	m := manifest(part(0, 0, false, 2), part(2, 5, false), part(3, 1, false, 0, 1))
	hear(t, a, true, m)
	check(t, a, api.Record{}, false, 0, 3)
	hear(t, a, true, chunks(3, 1)...)
	hear(t, a, true, chunks(1, 1)...)
	check(t, a, api.Record{}, false, 0)
	hear(t, a, true, chunks(0, 0)...)
	want := api.Record{Trace: 7, Job: 5, Class: 2, Whole: true, Parts: []api.Part{{Agent: 0, Crumbs: []int{2}}, {Agent: 2, Spans: row(5)}, {Agent: 3, Spans: row(1), Crumbs: []int{0, 1}}}}
	check(t, a, want, true)
	hear(t, a, false, m, manifest(part(1, 1, true)))
	hear(t, a, false, chunks(0, 0)...)
	hear(t, a, false, chunks(2, 5)...)
	check(t, a, want, true)

	for lost := range 2 {
		a = assemble.New(7, 5)
		hear(t, a, true, manifest(part(0, 2, lost == 0), part(1, 0, lost == 1)))
		hear(t, a, true, append(chunks(0, 2), chunks(1, 0)...)...)
		check(t, a, api.Record{Trace: 7, Job: 5, Class: 2, Parts: []api.Part{{Agent: 0, Spans: row(2), Lost: lost == 0}, {Agent: 1, Lost: lost == 1}}}, true)
	}
}

func TestWhatIsOfNoUse(t *testing.T) {
	a := assemble.New(7, 5)
	hear(t, a, false, nil, (*msg.Manifest)(nil), &msg.Chunk{Trace: 7, Job: 5, Total: 1}, msg.Trigger{Trace: 7}, msg.Pin{Trace: 7, Job: 5}, part(0, 1, false), msg.Gone{Trace: 7, Job: 5}, msg.Collect{Trace: 7, Job: 5}, msg.Stored{Trace: 7, Job: 5}, msg.Unpin{Trace: 7, Job: 5}, msg.Unpinned{Trace: 7, Job: 5},
		msg.Chunk{Trace: 8, Job: 5, Total: 1}, msg.Chunk{Trace: 7, Job: 4, Total: 1}, msg.Chunk{Trace: 7, Job: 5}, msg.Chunk{Agent: 4, Trace: 7, Job: 5, Total: 1}, msg.Chunk{Trace: 7, Job: 5, Total: 1, Spans: row(3)}, msg.Chunk{Trace: 7, Job: 5, Total: 1, Spans: []api.Span{{Trace: 8, Seq: 1}}},
		msg.Manifest{Trace: 8, Job: 5, Parts: []msg.Pinned{{Trace: 8, Job: 5}}}, msg.Manifest{Trace: 7, Job: 4, Parts: []msg.Pinned{{Trace: 7, Job: 4}}}, manifest(), manifest(part(1, 0, false), part(0, 0, false)), manifest(part(1, 1001, false)))
	check(t, a, api.Record{}, false)
	hear(t, a, true, manifest(part(0, 1, false)))
	check(t, a, api.Record{}, false, 0)
	for _, id := range [][2]int{{0, 0}, {-1, -1}, {math.MaxInt, 1}, {7, 0}} {
		b := assemble.New(id[0], id[1])
		if b == nil {
			t.Fatal("New")
		}
		hear(t, b, false, manifest(part(0, 1, false)), msg.Trigger{Trace: 7})
		check(t, b, api.Record{}, false)
	}
}

func TestTotals(t *testing.T) {
	chunk := func(index, total int, spans ...api.Span) msg.Message {
		return msg.Chunk{Agent: 1, Trace: 7, Job: 5, Index: index, Total: total, Spans: spans}
	}
	s := row(4)
	a := assemble.New(7, 5)
	hear(t, a, true, manifest(part(1, 3, false)), chunk(2, 3))
	hear(t, a, false, chunk(0, 2, s[:2]...), chunk(1, 2, s[2:3]...), chunk(2, 3, s[:2]...), chunk(2, 4))
	check(t, a, api.Record{}, false, 1)
	hear(t, a, true, chunk(1, 3, s[1:3]...))
	check(t, a, api.Record{}, false, 1)
	hear(t, a, true, chunk(0, 3, s[:1]...))
	check(t, a, api.Record{Trace: 7, Job: 5, Class: 2, Whole: true, Parts: []api.Part{{Agent: 1, Spans: s[:3]}}}, true)

	// As many as Count, but not all chunks are there.
	a = assemble.New(7, 5)
	hear(t, a, true, chunk(0, 2, s[:2]...), manifest(part(1, 2, false)))
	check(t, a, api.Record{}, false, 1)
	hear(t, a, true, chunk(1, 2))
	check(t, a, api.Record{Trace: 7, Job: 5, Class: 2, Whole: true, Parts: []api.Part{{Agent: 1, Spans: s[:2]}}}, true)

	// All are there, but they aren't as many as Count, or no row.
	for _, spans := range [][]api.Span{nil, s[:1], {s[1], s[0]}, {s[0], s[0]}, {s[1], s[2]}, {s[0], s[2]}} {
		a := assemble.New(7, 5)
		hear(t, a, true, chunk(0, 1, spans...), manifest(part(1, 2, false)))
		check(t, a, api.Record{}, false, 1)
	}
	a = assemble.New(7, 5)
	hear(t, a, true, chunk(0, 1, s[:2]...), manifest(part(1, 1, false)))
	check(t, a, api.Record{}, false, 1)
	// By rising Index, not as they came.
	a = assemble.New(7, 5)
	hear(t, a, true, chunk(1, 2, s[:2]...), chunk(0, 2, s[2:]...), manifest(part(1, 4, false)))
	check(t, a, api.Record{}, false, 1)
}

func TestAnyOrder(t *testing.T) {
	rnd := rand.New(rand.NewSource(17))
	for range 500 {
		var parts []msg.Pinned
		var list []msg.Message
		want := api.Record{Trace: 7, Job: 5, Class: 2, Whole: true}
		for agent := range 4 {
			if rnd.Intn(3) == 0 && agent < 3 {
				continue
			}
			n, lost := rnd.Intn(9), rnd.Intn(4) == 0
			parts = append(parts, part(agent, n, lost, agent))
			list = append(list, chunks(agent, n)...)
			want.Parts = append(want.Parts, api.Part{Agent: agent, Spans: row(n), Crumbs: []int{agent}, Lost: lost})
			want.Whole = want.Whole && !lost
		}
		list = append(list, manifest(parts...))
		a := assemble.New(7, 5)
		came := map[int]bool{}
		for len(came) < len(list) {
			if _, ok := a.Record(); ok {
				t.Fatal("a record ere all came")
			}
			i := rnd.Intn(len(list))
			hear(t, a, !came[i], list[i])
			came[i] = true
		}
		check(t, a, want, true)
	}
}

func TestWhatIsHandedInIsNotKept(t *testing.T) {
	a := assemble.New(7, 5)
	p := []msg.Pinned{part(0, 2, false, 1)}
	c := chunks(0, 2)[0].(msg.Chunk)
	hear(t, a, true, msg.Manifest{Trace: 7, Job: 5, Class: 2, Parts: p}, c)
	p[0].Crumbs[0], p[0].Count, c.Spans[0].Text = 3, 9, "other"
	want := api.Record{Trace: 7, Job: 5, Class: 2, Whole: true, Parts: []api.Part{{Agent: 0, Spans: row(2), Crumbs: []int{1}}}}
	check(t, a, want, true)
	r, _ := a.Record()
	r.Parts[0].Crumbs[0], r.Parts[0].Spans[1].Text = 3, "other"
	check(t, a, want, true)
}

func TestNil(t *testing.T) {
	var a *assemble.Asm
	hear(t, a, false, nil, manifest(part(0, 0, false)))
	check(t, a, api.Record{}, false)
}
