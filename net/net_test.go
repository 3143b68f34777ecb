package net_test

import (
	"math"
	"math/rand"
	"strconv"
	"testing"

	"spoor/api"
	"spoor/net"
)

type message struct {
	to int
	s  string
}

func abc() *net.Net {
	x := net.New()
	for i, s := range []string{"a", "b", "c"} {
		x.Send(i-1, s)
	}
	return x
}

func TestExample(t *testing.T) {
	x := abc()
	if to, s, ok := x.Bring(4); to != 0 || s != "b" || !ok {
		t.Errorf("Bring(4): %d, %q, %v", to, s, ok)
	}
	if to, s, ok := x.Bring(1); to != 1 || s != "c" || !ok {
		t.Errorf("Bring(1): %d, %q, %v", to, s, ok)
	}
	if to, s, ok := x.Look(-1); to != -1 || s != "a" || !ok || x.Len() != 1 {
		t.Errorf("Look(-1): %d, %q, %v", to, s, ok)
	}
}

func TestPlaces(t *testing.T) {
	for k, want := range map[int]string{0: "a", 1: "b", 2: "c", 3: "a", 5: "c", math.MaxInt: "b", -1: "a", -2: "c", -3: "b", math.MinInt: "c"} {
		if _, s, ok := abc().Look(k); s != want || !ok {
			t.Errorf("Look(%d): %q", k, s)
		}
		if _, s, ok := abc().Bring(k); s != want || !ok {
			t.Errorf("Bring(%d): %q", k, s)
		}
		x := abc()
		if !x.Drop(k) || x.Len() != 2 {
			t.Errorf("Drop(%d)", k)
		}
		for _, s := range []string{"a", "b", "c"} {
			if s == want {
				continue
			}
			if _, got, _ := x.Bring(0); got != s {
				t.Errorf("behind Drop(%d): %q, not %q", k, got, s)
			}
		}
	}
}

func TestFull(t *testing.T) {
	x := net.New()
	for i := range 200 {
		if x.Len() != i || x.Send(i, "") != api.OK {
			t.Fatalf("message %d", i)
		}
	}
	if x.Send(1, "a") != api.ErrFull || x.Len() != 200 {
		t.Error("message 201")
	}
	if to, _, _ := x.Bring(-57); to != (1<<64-57)%200 {
		t.Errorf("Bring(-57): %d", to)
	}
	if x.Send(9, "z") != api.OK || x.Send(9, "z") != api.ErrFull {
		t.Error("there is room for one")
	}
	if to, s, _ := x.Look(199); to != 9 || s != "z" {
		t.Error("it isn't the last one")
	}
}

func TestAgainstList(t *testing.T) {
	rnd := rand.New(rand.NewSource(10))
	for range 200 {
		x := net.New()
		var list []message
		for i := range 100 {
			k := rnd.Intn(9) - 2
			n := uint64(max(len(list), 1))
			at := int(uint64(k) % n)
			var want message
			if len(list) > 0 {
				want = list[at]
			}
			switch rnd.Intn(5) {
			case 0:
				to, s, ok := x.Bring(k)
				if to != want.to || s != want.s || ok != (len(list) > 0) {
					t.Fatalf("Bring(%d): %d, %q, %v", k, to, s, ok)
				}
				if ok {
					list = append(list[:at:at], list[at+1:]...)
				}
			case 1:
				if ok := x.Drop(k); ok != (len(list) > 0) {
					t.Fatalf("Drop(%d): %v", k, ok)
				} else if ok {
					list = append(list[:at:at], list[at+1:]...)
				}
			case 2:
				if to, s, ok := x.Look(k); to != want.to || s != want.s || ok != (len(list) > 0) {
					t.Fatalf("Look(%d): %d, %q, %v", k, to, s, ok)
				}
			default:
				m := message{rnd.Intn(9) - 4, strconv.Itoa(i)}
				list = append(list, m)
				if x.Send(m.to, m.s) != api.OK {
					t.Fatal("Send")
				}
			}
			if x.Len() != len(list) {
				t.Fatalf("Len is %d, not %d", x.Len(), len(list))
			}
		}
	}
}

func TestNone(t *testing.T) {
	var none *net.Net
	if none.Send(1, "a") != api.ErrNil {
		t.Error("Send of nil")
	}
	for _, x := range []*net.Net{none, net.New()} {
		for _, k := range []int{math.MinInt, -1, 0, 1, math.MaxInt} {
			if to, s, ok := x.Bring(k); to != 0 || s != "" || ok {
				t.Error("Bring of none")
			}
			if to, s, ok := x.Look(k); to != 0 || s != "" || ok {
				t.Error("Look of none")
			}
			if x.Drop(k) || x.Len() != 0 {
				t.Error("Drop of none")
			}
		}
	}
}
