package bucket_test

import (
	"math"
	"math/rand"
	"testing"

	"spoor/api"
	"spoor/bucket"
)

func TestNew(t *testing.T) {
	list := []int{math.MinInt, -1, 0, 1, 2, 999, 1000, 1001, math.MaxInt}
	for _, burst := range list {
		for _, rate := range list {
			b, e := bucket.New(burst, rate)
			if burst < 0 || burst > 1000 || rate < 0 || rate > 1000 {
				if b != nil || e != api.ErrArg {
					t.Errorf("New(%d, %d): %v", burst, rate, e)
				}
				continue
			}
			if b == nil || e != api.OK || b.Left() != burst || b.Taken() != 0 {
				t.Errorf("New(%d, %d): %v", burst, rate, e)
			}
		}
	}
}

func TestBurstAndRate(t *testing.T) {
	b, _ := bucket.New(2, 1)
	if !b.Take() || !b.Take() || b.Take() || b.Taken() != 2 || b.Left() != 0 {
		t.Error("two Takes, and no third one")
	}
	b.Tick()
	if b.Left() != 1 || !b.Take() || b.Take() || b.Taken() != 3 {
		t.Error("a third one behind a tick")
	}
	b.Tick()
	b.Tick()
	b.Tick()
	if b.Left() != 2 {
		t.Error("more than burst")
	}
	none, _ := bucket.New(0, 1000)
	none.Tick()
	if none.Take() || none.Left() != 0 {
		t.Error("a burst of 0 gives one")
	}
	dry, _ := bucket.New(1, 0)
	dry.Take()
	dry.Tick()
	if dry.Take() || dry.Taken() != 1 {
		t.Error("a rate of 0 gives one")
	}
}

func TestAgainstCounting(t *testing.T) {
	rnd := rand.New(rand.NewSource(4))
	for range 300 {
		burst, rate := rnd.Intn(6), rnd.Intn(4)
		b, _ := bucket.New(burst, rate)
		left, taken, ticks := burst, 0, 0
		for range 60 {
			if rnd.Intn(3) == 0 {
				b.Tick()
				ticks++
				if left += rate; left > burst {
					left = burst
				}
			} else if got := b.Take(); got != (left > 0) {
				t.Fatalf("Take is %v with %d left", got, left)
			} else if got {
				left--
				taken++
			}
			if b.Left() != left || b.Taken() != taken {
				t.Fatalf("left %d, taken %d; told %d, %d", left, taken, b.Left(), b.Taken())
			}
			if b.Taken() > burst+rate*ticks {
				t.Fatal("more were taken than burst, and rate for each tick")
			}
		}
	}
}

func TestNil(t *testing.T) {
	var b *bucket.Bucket
	b.Tick()
	if b.Take() || b.Left() != 0 || b.Taken() != 0 {
		t.Error("a nil Bucket gives something")
	}
}
