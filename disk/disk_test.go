package disk_test

import (
	"math"
	"math/rand"
	"strings"
	"testing"

	"spoor/api"
	"spoor/disk"
)

func check(t *testing.T, d *disk.Disk, bytes string, kept int) {
	t.Helper()
	if d.Bytes() != bytes || d.Kept() != kept {
		t.Errorf("%.20q, %d kept; not %.20q, %d", d.Bytes(), d.Kept(), bytes, kept)
	}
}

// abcdef: abc is kept, def isn't.
func abcdef() *disk.Disk {
	d := disk.New()
	d.Append("ab")
	d.Append("c")
	d.Sync()
	d.Append("def")
	return d
}

func TestCrash(t *testing.T) {
	check(t, disk.New(), "", 0)
	check(t, abcdef(), "abcdef", 3)
	for k, want := range map[int]string{0: "abc", 1: "abcd", 2: "abcde", 3: "abcdef", 4: "abc", 6: "abcde", -1: "abcdef", -2: "abcde", -4: "abc", math.MinInt: "abc", math.MaxInt: "abcdef"} {
		d := abcdef()
		d.Crash(k)
		check(t, d, want, len(want))
		d.Crash(7)
		check(t, d, want, len(want))
		d.Append("x")
		check(t, d, want+"x", len(want))
	}
	d := disk.New()
	d.Crash(5)
	check(t, d, "", 0)
	d.Append("ab")
	d.Crash(-1) // 2^64 - 1 modulo 3 is 0
	check(t, d, "", 0)
}

func TestCut(t *testing.T) {
	for n, want := range map[int]string{math.MinInt: "", -1: "", 0: "", 1: "a", 3: "abc", 4: "abcd", 6: "abcdef", 7: "abcdef", math.MaxInt: "abcdef"} {
		d := abcdef()
		d.Cut(n)
		check(t, d, want, len(want))
		d.Append("xy")
		check(t, d, want+"xy", len(want))
	}
}

func TestFull(t *testing.T) {
	d := disk.New()
	if d.Append(strings.Repeat("a", 65537)) != api.ErrFull {
		t.Error("65537 bytes")
	}
	check(t, d, "", 0)
	if d.Append(strings.Repeat("a", 65535)) != api.OK || d.Append("bc") != api.ErrFull || d.Append("b") != api.OK || d.Append("c") != api.ErrFull || d.Append("") != api.OK {
		t.Error("65536 bytes, and no more")
	}
	check(t, d, strings.Repeat("a", 65535)+"b", 0)
	d.Cut(65000)
	if d.Append(strings.Repeat("c", 537)) != api.ErrFull || d.Append(strings.Repeat("c", 536)) != api.OK {
		t.Error("behind a cut there is room")
	}
}

func TestAgainstText(t *testing.T) {
	rnd := rand.New(rand.NewSource(15))
	for range 300 {
		d, bytes, kept := disk.New(), "", 0
		for range 60 {
			k := rnd.Intn(12) - 2
			switch rnd.Intn(6) {
			case 0:
				d.Sync()
				kept = len(bytes)
			case 1:
				if rnd.Intn(3) > 0 {
					break
				}
				d.Cut(k)
				bytes = bytes[:min(max(k, 0), len(bytes))]
				kept = len(bytes)
			case 2:
				was := bytes[:kept]
				d.Crash(k)
				bytes = bytes[:kept+int(uint64(k)%uint64(len(bytes)-kept+1))]
				kept = len(bytes)
				if !strings.HasPrefix(d.Bytes(), was) {
					t.Fatal("what was kept isn't there")
				}
			default:
				s := strings.Repeat(string(rune('a'+rnd.Intn(26))), rnd.Intn(4))
				bytes += s
				d.Append(s)
			}
			check(t, d, bytes, kept)
		}
	}
}

func TestNil(t *testing.T) {
	var d *disk.Disk
	if d.Append("a") != api.ErrNil || d.Append(strings.Repeat("a", 65537)) != api.ErrNil {
		t.Error("Append")
	}
	d.Sync()
	d.Crash(1)
	d.Cut(1)
	check(t, d, "", 0)
}
