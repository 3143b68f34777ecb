package lease_test

import (
	"math"
	"math/rand"
	"slices"
	"testing"

	"spoor/api"
	"spoor/lease"
)

func TestNew(t *testing.T) {
	for _, n := range []int{math.MinInt, -1, 0, 1001, math.MaxInt} {
		if l, e := lease.New(n); l != nil || e != api.ErrArg {
			t.Errorf("New(%d): %v", n, e)
		}
	}
	for _, n := range []int{1, 2, 999, 1000} {
		l, e := lease.New(n)
		if l == nil || e != api.OK || l.Len() != 0 || len(l.Tick()) != 0 {
			t.Fatalf("New(%d): %v", n, e)
		}
		l.Grant(7, 3)
		for i := range n {
			if l.Job(7) != 3 || l.Left(7) != n-i || l.Len() != 1 || l.Over(7) != 0 {
				t.Errorf("of %d ticks, behind %d: %d left", n, i, l.Left(7))
			}
			if ended := l.Tick(); (len(ended) > 0) != (i == n-1) || i == n-1 && !slices.Equal(ended, []int{7}) {
				t.Errorf("of %d ticks, tick %d ends %v", n, i+1, ended)
			}
		}
		if l.Job(7) != 0 || l.Left(7) != 0 || l.Len() != 0 || l.Over(7) != 3 || len(l.Tick()) != 0 {
			t.Errorf("behind %d ticks it is held", n)
		}
	}
}

func TestGrantedAgain(t *testing.T) {
	l, _ := lease.New(2)
	l.Grant(7, 5)
	l.Tick()
	l.Grant(7, 4)
	if l.Job(7) != 4 || l.Left(7) != 2 || l.Len() != 1 || l.Over(7) != 0 {
		t.Error("it is granted again, for another job")
	}
	l.Tick()
	l.Grant(9, 1)
	l.Grant(8, 1)
	l.Grant(-3, 1)
	if ended := l.Tick(); !slices.Equal(ended, []int{7}) || l.Over(7) != 4 {
		t.Errorf("ended %v", ended)
	}
	if ended := l.Tick(); !slices.Equal(ended, []int{-3, 8, 9}) {
		t.Errorf("ended %v, not rising", ended)
	}
	l.Grant(7, 2)
	l.Tick()
	l.Tick()
	if l.Over(7) != 4 {
		t.Error("Over is the greatest one")
	}
	l.Grant(7, 9)
	l.End(7)
	l.End(7)
	if l.Len() != 0 || l.Job(7) != 0 || l.Left(7) != 0 || len(l.Tick()) != 0 || len(l.Tick()) != 0 || l.Over(7) != 4 {
		t.Error("what is ended doesn't run out")
	}
}

func TestJobsThatAreNone(t *testing.T) {
	l, _ := lease.New(1)
	for _, job := range []int{0, -5} {
		l.Grant(7, job)
		if l.Len() != 1 || l.Left(7) != 1 || l.Job(7) != job {
			t.Errorf("held for the job %d", job)
		}
		if ended := l.Tick(); !slices.Equal(ended, []int{7}) || l.Over(7) != 0 {
			t.Errorf("the job %d: ended %v, over %d", job, ended, l.Over(7))
		}
	}
}

type held struct{ job, left int }

func TestAgainstCounting(t *testing.T) {
	rnd := rand.New(rand.NewSource(11))
	for range 300 {
		ticks := 1 + rnd.Intn(5)
		l, _ := lease.New(ticks)
		now, over := map[int]held{}, map[int]int{}
		for range 80 {
			trace, job := rnd.Intn(5), 1+rnd.Intn(9)
			switch rnd.Intn(4) {
			case 0:
				l.End(trace)
				delete(now, trace)
			case 1:
				var want []int
				for i := range 5 {
					h, is := now[i]
					if !is {
						continue
					}
					if h.left--; h.left == 0 {
						want = append(want, i)
						over[i] = max(over[i], h.job)
						delete(now, i)
					} else {
						now[i] = h
					}
				}
				if got := l.Tick(); !slices.Equal(got, want) {
					t.Fatalf("Tick is %v, not %v", got, want)
				}
			default:
				l.Grant(trace, job)
				now[trace] = held{job, ticks}
			}
			for i := range 5 {
				if l.Job(i) != now[i].job || l.Left(i) != now[i].left || l.Over(i) != over[i] {
					t.Fatalf("trace %d: job %d, left %d, over %d", i, l.Job(i), l.Left(i), l.Over(i))
				}
			}
			if l.Len() != len(now) {
				t.Fatalf("Len is %d", l.Len())
			}
		}
	}
}

func TestNil(t *testing.T) {
	var l *lease.Leases
	l.Grant(1, 1)
	l.End(1)
	if l.Job(1) != 0 || l.Left(1) != 0 || l.Tick() != nil || l.Over(1) != 0 || l.Len() != 0 {
		t.Error("nil Leases hold something")
	}
}
