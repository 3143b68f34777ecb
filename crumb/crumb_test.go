package crumb_test

import (
	"math"
	"math/rand"
	"slices"
	"testing"

	"spoor/api"
	"spoor/crumb"
)

func TestNew(t *testing.T) {
	for _, n := range []int{math.MinInt, -1, 0, 5, math.MaxInt} {
		if crumb.New(n) != nil {
			t.Errorf("New(%d)", n)
		}
	}
	for n := 1; n <= 4; n++ {
		c := crumb.New(n)
		if c == nil || len(c.Traces()) != 0 || len(c.Of(1)) != 0 {
			t.Errorf("New(%d)", n)
		}
		for agent := -2; agent < 7; agent++ {
			want := api.OK
			if agent < 0 || agent >= n {
				want = api.ErrRange
			}
			if e := c.Add(1, agent); e != want {
				t.Errorf("of %d agents %d is named: %v", n, agent, e)
			}
		}
	}
}

func TestAdd(t *testing.T) {
	c := crumb.New(4)
	for _, trace := range []int{math.MinInt, -1, 0, 65536, math.MaxInt} {
		if e := c.Add(trace, 0); e != api.ErrArg {
			t.Errorf("Add of the trace %d: %v", trace, e)
		}
		if e := c.Add(trace, 9); e != api.ErrArg {
			t.Errorf("Add of the trace %d and no agent: %v", trace, e)
		}
	}
	for _, x := range []struct {
		trace, agent int
		want         api.Errno
	}{{7, 3, api.OK}, {7, 0, api.OK}, {65535, 2, api.OK}, {7, 3, api.ErrOnce}, {7, 1, api.OK}, {1, 3, api.OK}, {7, 0, api.ErrOnce}, {7, 4, api.ErrRange}} {
		if e := c.Add(x.trace, x.agent); e != x.want {
			t.Errorf("Add(%d, %d): %v", x.trace, x.agent, e)
		}
	}
	if !slices.Equal(c.Of(7), []int{0, 1, 3}) || !slices.Equal(c.Of(65535), []int{2}) || len(c.Of(2)) != 0 || !slices.Equal(c.Traces(), []int{1, 7, 65535}) {
		t.Errorf("%v, %v", c.Of(7), c.Traces())
	}
	c.Of(7)[0] = 9
	_ = append(c.Of(1), 2)
	c.Traces()[0] = 9
	if !slices.Equal(c.Of(7), []int{0, 1, 3}) || !slices.Equal(c.Of(1), []int{3}) || !slices.Equal(c.Traces(), []int{1, 7, 65535}) {
		t.Error("an answer is the crumbs' own memory")
	}
	c.Drop(7)
	c.Drop(8)
	if len(c.Of(7)) != 0 || !slices.Equal(c.Traces(), []int{1, 65535}) {
		t.Error("Drop")
	}
	if c.Add(7, 3) != api.OK || !slices.Equal(c.Of(7), []int{3}) {
		t.Error("behind Drop it may be named anew")
	}
}

func TestNil(t *testing.T) {
	var c *crumb.Crumbs
	c.Drop(1)
	if c.Add(1, 0) != api.ErrNil || c.Add(0, 9) != api.ErrNil || c.Of(1) != nil || c.Traces() != nil {
		t.Error("nil Crumbs name some")
	}
}

// reach is Reach, by steps till nobody more is met.
func reach(from int, names [][]int) []int {
	n := len(names)
	met := make([]bool, n)
	if from >= 0 && from < n {
		met[from] = true
	}
	for range names {
		for i, list := range names {
			for _, j := range list {
				if met[i] && j >= 0 && j < n {
					met[j] = true
				}
			}
		}
	}
	var out []int
	for i := range met {
		if met[i] {
			out = append(out, i)
		}
	}
	return out
}

func TestReach(t *testing.T) {
	for _, x := range []struct {
		from  int
		names [][]int
		want  []int
	}{
		{0, [][]int{{1}, {2}, nil}, []int{0, 1, 2}}, {1, [][]int{{1}, {2}, nil}, []int{1, 2}}, {2, [][]int{{1}, {2}, nil}, []int{2}}, {3, [][]int{{1}, {2}, nil}, nil}, {-1, [][]int{{1}, {2}, nil}, nil},
		{0, nil, nil}, {0, [][]int{{0, 0}}, []int{0}}, {0, [][]int{{2, -1, 3, math.MinInt, math.MaxInt}, {0}, {0}}, []int{0, 2}}, {2, [][]int{{}, {0}, {1}}, []int{0, 1, 2}},
	} {
		if got := crumb.Reach(x.from, x.names); !slices.Equal(got, x.want) {
			t.Errorf("Reach(%d, %v) is %v", x.from, x.names, got)
		}
	}
}

func TestReachOfMany(t *testing.T) {
	rnd := rand.New(rand.NewSource(8))
	for range 1000 {
		n := 1 + rnd.Intn(9)
		names := make([][]int, n)
		for i := range names {
			for range rnd.Intn(3) {
				names[i] = append(names[i], rnd.Intn(n+3)-1)
			}
		}
		from := rnd.Intn(n+2) - 1
		got := crumb.Reach(from, names)
		if !slices.Equal(got, reach(from, names)) {
			t.Fatalf("Reach(%d, %v) is %v", from, names, got)
		}
		for _, i := range got {
			for _, j := range crumb.Reach(i, names) {
				if !slices.Contains(got, j) {
					t.Fatalf("%d comes to %d, but %d, who comes to it, doesn't", i, j, from)
				}
			}
		}
	}
}

func TestReachWithMoreNames(t *testing.T) {
	rnd := rand.New(rand.NewSource(9))
	for range 300 {
		n := 1 + rnd.Intn(6)
		names := make([][]int, n)
		before := crumb.Reach(0, names)
		for range 10 {
			i := rnd.Intn(n)
			names[i] = append(names[i], rnd.Intn(n))
			now := crumb.Reach(0, names)
			for _, x := range before {
				if !slices.Contains(now, x) {
					t.Fatalf("with more names %d isn't come to any more", x)
				}
			}
			before = now
		}
	}
}

func TestReachIsLinear(t *testing.T) {
	names := make([][]int, 200000)
	for i := range names {
		names[i] = []int{i - 1, i + 1, i}
	}
	if got := crumb.Reach(100000, names); len(got) != len(names) || got[0] != 0 || got[199999] != 199999 {
		t.Error("a long way")
	}
}
