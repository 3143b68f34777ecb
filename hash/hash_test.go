package hash_test

import (
	"hash/fnv"
	"math"
	"strings"
	"testing"

	"spoor/hash"
)

var sampleTexts = []string{"", "a", "b", "ab", "ba", "foobar", "\x00", "\x00\x00", "\xff", "\u00e9\u20ac", "\xe2\x82", strings.Repeat("spoor", 1000)}

var sampleSeeds = []uint64{0, 1, 255, 256, 1 << 32, 1 << 63, 0x0102030405060708, math.MaxUint64}

var sampleTraces = []int{0, 1, 2, 3, 255, 256, 257, 65535, 65536, 1<<31 - 1, 1 << 31, 1<<32 - 1, 1 << 32, 1<<32 + 1, -1, math.MaxInt, math.MinInt}

func sum(b []byte) uint64 {
	h := fnv.New64a()
	h.Write(b)
	return h.Sum64()
}

func TestSumAndCheck(t *testing.T) {
	for _, s := range sampleTexts {
		want := sum([]byte(s))
		if got := hash.Sum(s); got != want {
			t.Errorf("Sum(%.9q) is %x", s, got)
		}
		if got := hash.Check(s); got != uint32(want>>32)^uint32(want&0xffffffff) {
			t.Errorf("Check(%.9q) is %x", s, got)
		}
	}
	if hash.Sum("") != 0xcbf29ce484222325 || hash.Sum("a") != 0xaf63dc4c8601ec8c {
		t.Error("the chapter's examples")
	}
	if hash.Check("") != 0xcbf29ce4^0x84222325 || hash.Check("a") != 0xaf63dc4c^0x8601ec8c {
		t.Error("check sums of the chapter's examples")
	}
}

func priority(seed uint64, trace int) uint64 {
	n := uint32(uint64(trace) % (1 << 32))
	return sum([]byte{byte(seed >> 56), byte(seed >> 48), byte(seed >> 40), byte(seed >> 32), byte(seed >> 24), byte(seed >> 16), byte(seed >> 8), byte(seed), byte(n >> 24), byte(n >> 16), byte(n >> 8), byte(n)})
}

func TestPriority(t *testing.T) {
	for _, seed := range sampleSeeds {
		for _, trace := range sampleTraces {
			if got := hash.Priority(seed, trace); got != priority(seed, trace) {
				t.Errorf("Priority(%x, %d) is %x", seed, trace, got)
			}
		}
	}
	if hash.Priority(7, 5) != hash.Priority(7, 5+1<<32) {
		t.Error("a number counts modulo 2^32")
	}
}

func less(seed uint64, a, b int) bool {
	x, y := priority(seed, a), priority(seed, b)
	if x == y {
		return a < b
	}
	return x < y
}

func TestLess(t *testing.T) {
	for _, seed := range sampleSeeds {
		for _, a := range sampleTraces {
			for _, b := range sampleTraces {
				if got := hash.Less(seed, a, b); got != less(seed, a, b) {
					t.Errorf("Less(%x, %d, %d) is %v", seed, a, b, got)
				}
			}
		}
		// Where priorities are the same the number tells.
		if !hash.Less(seed, 5, 5+1<<32) || hash.Less(seed, 5+1<<32, 5) || hash.Less(seed, 5, 5) {
			t.Errorf("traces of one priority, by the seed %x", seed)
		}
	}
}

func TestLessIsAnOrder(t *testing.T) {
	for seed := uint64(0); seed < 3; seed++ {
		for a := 0; a < 20; a++ {
			for b := 0; b < 20; b++ {
				if a != b && hash.Less(seed, a, b) == hash.Less(seed, b, a) {
					t.Errorf("of %d and %d not just one is worth less", a, b)
				}
				for c := 0; c < 20; c++ {
					if hash.Less(seed, a, b) && hash.Less(seed, b, c) && !hash.Less(seed, a, c) {
						t.Errorf("%d, %d, %d in a row", a, b, c)
					}
				}
			}
		}
	}
}

func TestLeast(t *testing.T) {
	for _, seed := range sampleSeeds {
		if hash.Least(seed, nil) != -1 || hash.Least(seed, []int{}) != -1 {
			t.Error("Least of none")
		}
		for from := range sampleTraces {
			for to := from + 1; to <= len(sampleTraces); to++ {
				list := append([]int{}, sampleTraces[from:to]...)
				got := hash.Least(seed, list)
				there := false
				for i, x := range list {
					there = there || x == got
					if less(seed, x, got) {
						t.Errorf("Least is %d, but %d is worth less", got, x)
					}
					if x != sampleTraces[from+i] {
						t.Error("the list was changed")
					}
				}
				if !there {
					t.Errorf("Least is %d, which isn't in the list", got)
				}
			}
		}
		if hash.Least(seed, []int{5 + 1<<32, 5, 5 + 2<<32}) != 5 || hash.Least(seed, []int{9, 9}) != 9 {
			t.Error("Least of traces that are worth the same")
		}
	}
}
