package wire_test

import (
	"math"
	"strings"
	"testing"
	"unicode/utf8"

	"spoor/name"
	"spoor/wire"
)

const most = 1 << 53

// number spells a number's runes by the words of the chapter.
func number(n int) string {
	if n < 0 {
		n = 0
	}
	out := []rune{rune(0x1100 + n%4096)}
	for n /= 4096; n > 0; n /= 4096 {
		out = append([]rune{rune(0x100 + n%4096)}, out...)
	}
	return string(out)
}

var numbers = []int{0, 1, 2, 255, 4095, 4096, 4097, 8191, 65535, 1 << 24, 1<<24 - 1, 1<<24 + 1, 1 << 31, 1 << 36, 1<<41 - 1, 1 << 41, 1<<48 - 1, 1 << 48, most - 4096, most - 1, most}

var texts = []string{"", "a", "host-12", "\xff", "\n", "\\", "a\\u41.b", "\u00e9\u20ac\U0010ffff", "\xe2\x82", strings.Repeat("\x00", 300), strings.Repeat("a", 5000)}

func ints(list ...int) string {
	var w wire.Writer
	w.Int(list...)
	return w.String()
}

func TestWrite(t *testing.T) {
	for _, n := range append(numbers, -1, math.MinInt, math.MaxInt, most+1) {
		if got := ints(n); got != number(n) {
			t.Errorf("Int(%d) is %q", n, got)
		}
	}
	if ints(0) != "\u1100" || ints(4096) != "\u0101\u1100" {
		t.Error("the chapter's examples")
	}
	for _, s := range texts {
		var w wire.Writer
		w.Text(s)
		q := name.Quote(s)
		if want := number(utf8.RuneCountInString(q)) + q; w.String() != want {
			t.Errorf("Text(%q) is %q", s, w.String())
		}
	}
	var w wire.Writer
	if w.String() != "" {
		t.Error("a new Writer has something")
	}
	w.Int()
	w.Text()
	w.Int(7, 5000)
	w.Text("a", "")
	w.Int(-3)
	if want := number(7) + number(5000) + number(1) + "a" + number(0) + number(0); w.String() != want {
		t.Errorf("several fields are %q", w.String())
	}
}

func TestReadAsWritten(t *testing.T) {
	var w wire.Writer
	for _, n := range numbers {
		w.Int(n)
		w.Text(texts...)
	}
	if !utf8.ValidString(w.String()) {
		t.Error("what is written is no UTF-8")
	}
	r := wire.NewReader(w.String())
	for _, n := range numbers {
		if r.Done() {
			t.Fatal("done too early")
		}
		if got := r.Int(0, most); got != n {
			t.Errorf("%d is read as %d", n, got)
		}
		for _, s := range texts {
			if got := r.Text(len(s)); got != s {
				t.Errorf("%q is read as %q", s, got)
			}
		}
	}
	if !r.Ok() || !r.Done() {
		t.Error("all was read, but", r.Ok(), r.Done())
	}
}

func TestBounds(t *testing.T) {
	for _, n := range numbers {
		for _, c := range []struct {
			lo, hi int
			ok     bool
		}{{n, n, true}, {n - 1, n + 1, true}, {math.MinInt, math.MaxInt, true}, {n + 1, n + 9, false}, {n - 9, n - 1, false}, {n + 1, n - 1, false}} {
			r := wire.NewReader(number(n) + number(1))
			got := r.Int(c.lo, c.hi)
			if r.Ok() != c.ok || c.ok && got != n || !c.ok && got != 0 {
				t.Errorf("%d from %d to %d: %d, %v", n, c.lo, c.hi, got, r.Ok())
			}
			if !c.ok && (r.Int(0, most) != 0 || r.Text(9) != "" || r.Ok() || r.Done()) {
				t.Errorf("behind %d, which was wrong, something is read", n)
			}
		}
	}
	for _, s := range texts {
		var w wire.Writer
		w.Text(s)
		for _, bound := range []int{len(s) - 1, len(s), len(s) + 1, -1, math.MinInt, math.MaxInt} {
			r := wire.NewReader(w.String())
			got := r.Text(bound)
			if ok := len(s) <= bound; r.Ok() != ok || r.Done() != ok || ok && got != s || !ok && got != "" {
				t.Errorf("%q of at most %d: %q, %v", s, bound, got, r.Ok())
			}
		}
	}
}

func TestWrongNumbers(t *testing.T) {
	for _, s := range []string{
		"", "a", "\u00ff", "\u0100", "\u0101", "\u10ff", "\u2100", "\uffff", "\xff", "\xe1\x84", "\ufffd", "\u1100"[:2],
		"\u0100\u1100", "\u0100\u1105", "\u0100\u0101\u1100", "\u0101a", "\u0101\u2100", "\u0101\xff", "\u0101\u0102",
		number(most + 1), number(most + 4096), number(1 << 60), number(math.MaxInt),
		"\u0101\u0100\u0100\u0100\u0100\u0100\u1105", "\u0110\u0100\u0100\u0100\u0100\u0100\u1105", strings.Repeat("\u0101", 40) + "\u1100", "\u0120\u0100\u0100\u0100\u1101",
		strings.Repeat("\u0100", 20) + "\u1100", "\u0101" + strings.Repeat("\u0100", 16) + "\u1100",
	} {
		r := wire.NewReader(s)
		if n := r.Int(math.MinInt, math.MaxInt); n != 0 || r.Ok() || r.Done() {
			t.Errorf("of %q %d is read", s, n)
		}
		r = wire.NewReader(s)
		if x := r.Text(math.MaxInt); x != "" || r.Ok() || r.Done() {
			t.Errorf("of %q the text %q is read", s, x)
		}
	}
	for r := rune(0); r < 0x2200; r++ {
		x := wire.NewReader(string(r))
		want := r >= 0x1100 && r < 0x2100
		if n := x.Int(0, most); x.Ok() != want || want && n != int(r-0x1100) {
			t.Errorf("of the rune %x %d is read", r, n)
		}
		// Ahead of other digits it is one, but for a nought at the front.
		for _, ahead := range []string{"", "\u0101"} {
			x = wire.NewReader(ahead + string(r) + "\u1105")
			n, want := x.Int(math.MinInt, math.MaxInt), r >= 0x1100 && r < 0x2100
			if r >= 0x100 && r < 0x1100 {
				want = ahead != "" || r > 0x100
			}
			if x.Ok() != want || !want && n != 0 {
				t.Errorf("of the rune %x and a digit %d is read", r, n)
			}
		}
	}
}

func TestWrongTexts(t *testing.T) {
	for _, s := range []string{
		number(1), number(2) + "a", number(1) + "\xff", number(1) + "\n", number(1) + "\\", number(3) + "\\ua", number(4) + "\\x41", number(1) + "\u20ac", number(5) + "\\u41.", number(most) + "a", number(2) + "a\xff",
		number(16) + "\\xe2\\x82\\xac", number(3) + "a\\\\"[:2],
	} {
		r := wire.NewReader(s)
		if x := r.Text(100); x != "" || r.Ok() || r.Done() {
			t.Errorf("of %q %q is read", s, x)
		}
		if r.Int(0, most) != 0 || r.Text(5) != "" || r.Ok() {
			t.Errorf("behind %q something is read", s)
		}
	}
	r := wire.NewReader(number(2) + "\u00e9a\u1105")
	if r.Text(3) != "\u00e9a" || r.Done() || !r.Ok() || r.Int(5, 5) != 5 || !r.Done() {
		t.Error("how many runes a text has isn't how many bytes")
	}
}

func TestNil(t *testing.T) {
	var w *wire.Writer
	w.Int(1, 2)
	w.Text("a")
	if w.String() != "" {
		t.Error("a nil Writer has something")
	}
	var r *wire.Reader
	if r.Int(0, 9) != 0 || r.Text(9) != "" || r.Ok() || r.Done() {
		t.Error("a nil Reader reads something")
	}
	empty := wire.NewReader("")
	if !empty.Ok() || !empty.Done() {
		t.Error("of an empty text all is read")
	}
	if empty.Int(0, 5) != 0 || empty.Ok() || empty.Done() {
		t.Error("of an empty text a number is read")
	}
}

func TestNoFieldIsAnothersBeginning(t *testing.T) {
	var fields []string
	for _, n := range numbers {
		fields = append(fields, number(n))
	}
	for _, a := range fields {
		for _, b := range fields {
			if a != b && strings.HasPrefix(b, a) {
				t.Errorf("%q begins with %q", b, a)
			}
		}
	}
	fields = nil
	for _, s := range texts {
		var w wire.Writer
		w.Text(s)
		fields = append(fields, w.String())
	}
	for _, a := range fields {
		for _, b := range fields {
			if a != b && strings.HasPrefix(b, a) {
				t.Errorf("%q begins with %q", b, a)
			}
		}
	}
}

func TestLongFields(t *testing.T) {
	var w wire.Writer
	for i := 0; i < 200000; i++ {
		w.Int(i)
	}
	r := wire.NewReader(w.String())
	for i := 0; i < 200000; i++ {
		if r.Int(i, i) != i {
			t.Fatal(i)
		}
	}
	if !r.Ok() || !r.Done() {
		t.Error("many numbers aren't read as they were")
	}
}
