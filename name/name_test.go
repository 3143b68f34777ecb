package name_test

import (
	"fmt"
	"math"
	"strings"
	"testing"
	"unicode/utf8"

	"spoor/api"
	"spoor/name"
)

// pieces: runes of every kind that the chapter tells apart, and bytes that are no UTF-8.
var pieces = []string{
	"a", "z", "A", "Z", "0", "9", "-", " ", "~", "\\", "!", "/", ":", "@", "[", "`", "{", "\x00", "\n", "\x1f", "\x7f",
	"\u0080", "\u009f", "\u00a0", "\u00a1", "\u00bf", "\u00c0", "\u00d7", "\u024f", "\u0250", "\u07ff", "\u0800", "\u20ac", "\ud7ff", "\ue000", "\ufffd", "\uffff", "\U00010000", "\U0010ffff",
	"\x80", "\xbf", "\xc0", "\xc1", "\xe2", "\xe2\x82", "\xed\xa0\x80", "\xf0\x9f\x98", "\xf4\x90\x80\x80", "\xfe", "\xff",
}

// texts are the pieces, all pairs of them, and some longer ones.
func texts() []string {
	out := []string{"", "host-12", "abcdefghijklmnop", "abcdefghijklmnopq", "a\\u41.b", "\\x41", "\\\\"}
	for _, a := range pieces {
		out = append(out, a)
		for _, b := range pieces {
			out = append(out, a+b, a+"x"+b+b)
		}
	}
	return out
}

func isNameRune(r rune) bool {
	return strings.ContainsRune("abcdefghijklmnopqrstuvwxyzABCDEFGHIJKLMNOPQRSTUVWXYZ0123456789-", r) || r >= 0xc0 && r <= 0x24f
}

func TestRight(t *testing.T) {
	for _, s := range texts() {
		runes := []rune(s)
		want := utf8.ValidString(s) && len(runes) >= 1 && len(runes) <= 16
		for _, r := range runes {
			want = want && isNameRune(r)
		}
		if name.Right(s) != want {
			t.Errorf("Right(%q) is %v", s, !want)
		}
	}
	for r := rune(0); r < 0x400; r++ {
		if name.Right(string(r)) != isNameRune(r) {
			t.Errorf("Right of the rune %x", r)
		}
	}
	for n := 0; n < 40; n++ {
		for _, piece := range []string{"a", "\u00e9"} {
			if s := strings.Repeat(piece, n); name.Right(s) != (n >= 1 && n <= 16) {
				t.Errorf("Right(%q)", s)
			}
		}
	}
}

func TestCountAndValid(t *testing.T) {
	for _, s := range texts() {
		if got := name.Count(s); got != utf8.RuneCountInString(s) {
			t.Errorf("Count(%q) is %d", s, got)
		}
		if got := name.Valid(s); got != utf8.ValidString(s) {
			t.Errorf("Valid(%q) is %v", s, got)
		}
	}
}

func TestCut(t *testing.T) {
	for _, s := range texts() {
		var starts []int
		for i := range s {
			starts = append(starts, i)
		}
		for n := -1; n <= len(starts)+2; n++ {
			want := s
			if n < 1 {
				want = ""
			} else if n < len(starts) {
				want = s[:starts[n]]
			}
			if got := name.Cut(s, n); got != want {
				t.Errorf("Cut(%q, %d) is %q", s, n, got)
			}
		}
		if name.Cut(s, math.MinInt) != "" || name.Cut(s, math.MaxInt) != s {
			t.Errorf("Cut(%q) at the ends of int", s)
		}
	}
}

// order is Order, by lists of runes and their widths.
func order(a, b string) int {
	type seen struct {
		r rune
		w int
	}
	split := func(s string) (out []seen) {
		for len(s) > 0 {
			r, w := utf8.DecodeRuneInString(s)
			out = append(out, seen{r, w})
			s = s[w:]
		}
		return out
	}
	x, y := split(a), split(b)
	for i := 0; i < len(x) && i < len(y); i++ {
		switch {
		case x[i].r < y[i].r, x[i].r == y[i].r && x[i].w < y[i].w:
			return -1
		case x[i] != y[i]:
			return 1
		}
	}
	switch {
	case len(x) < len(y):
		return -1
	case len(x) > len(y):
		return 1
	}
	return strings.Compare(a, b)
}

func TestOrder(t *testing.T) {
	few := []string{"", "b\xffc", "\xff\xff", "\xfe\xff", "\xffa", "\xfe", "\xfeb", "ab", "a", "\ufffda", "\u00e9", "z"}
	list := append(texts()[:60:60], few...)
	for _, a := range append(list, pieces...) {
		for _, b := range append(list, pieces...) {
			for _, ahead := range []string{"", "k", "\xfe"} {
				if got, want := name.Order(ahead+a, ahead+b), order(ahead+a, ahead+b); got != want {
					t.Errorf("Order(%q, %q) is %d", ahead+a, ahead+b, got)
				}
			}
		}
	}
	for _, c := range []struct {
		a, b string
		want int
	}{{"\xff", "\ufffd", -1}, {"\ufffd", "\xff", 1}, {"\xfe", "\xff", -1}, {"\xff", "\xfe", 1}, {"\xff", "\xfea", -1}, {"\xfea", "\xff", 1}, {"", "", 0}, {"\xff", "\xff", 0}, {"a", "ab", -1}, {"\u00e9", "z", 1}, {"\uffff", "\U00010000", -1}} {
		if got := name.Order(c.a, c.b); got != c.want {
			t.Errorf("Order(%q, %q) is %d", c.a, c.b, got)
		}
	}
}

// quote is Quote, by the words of the chapter.
func quote(s string) string {
	out := ""
	for len(s) > 0 {
		r, w := utf8.DecodeRuneInString(s)
		switch {
		case r == utf8.RuneError && w == 1:
			out += fmt.Sprintf("\\x%02x", s[0])
		case r == '\\':
			out += "\\\\"
		case r >= 0x20 && r <= 0x7e || r >= 0xa1 && r <= 0x24f:
			out += string(r)
		default:
			out += fmt.Sprintf("\\u%x.", r)
		}
		s = s[w:]
	}
	return out
}

func TestQuote(t *testing.T) {
	for _, s := range texts() {
		if got := name.Quote(s); got != quote(s) {
			t.Errorf("Quote(%q) is %q", s, got)
		}
	}
	for r := rune(0); r <= 0x300; r++ {
		if got := name.Quote(string(r)); got != quote(string(r)) {
			t.Errorf("Quote of the rune %x is %q", r, got)
		}
	}
	for b := 0; b < 256; b++ {
		s := string([]byte{byte(b)})
		if got := name.Quote(s); got != quote(s) {
			t.Errorf("Quote of the byte %x is %q", b, got)
		}
	}
	if name.Quote("\xff") != `\xff` || name.Quote("\n") != `\ua.` {
		t.Error("the chapter's examples")
	}
}

func TestUnquoteIsQuotesInverse(t *testing.T) {
	seen := map[string]string{}
	for _, s := range texts() {
		q := name.Quote(s)
		if !utf8.ValidString(q) {
			t.Errorf("Quote(%q) is no UTF-8", s)
		}
		if u, e := name.Unquote(q); u != s || e != api.OK {
			t.Errorf("Unquote(%q) is %q, %d", q, u, e)
		}
		if was, ok := seen[q]; ok && was != s {
			t.Errorf("%q and %q are quoted alike", was, s)
		}
		seen[q] = s
	}
}

func TestUnquoteOfWrongTexts(t *testing.T) {
	for _, s := range []string{
		`\`, `a\`, `\a`, `\n`, `\x`, `\x4`, `\x41`, `\x5c`, `\xFF`, `\xfF`, `\xgg`, `\x+f`, `\xe2\x82\xac`, `\xc3\xa9`,
		`\u`, `\u.`, `\ua`, `\u41.`, `\u00.`, `\u0a.`, `\uA.`, `\ud800.`, `\udfff.`, `\u110000.`, `\uffffffff.`, `\u100000000.`, `\u10000000000000000.`, `\u-1.`, `\u+a.`, `\u_a.`, `\u5c.`, `\ue9.`, `\u20.`, `\u7e.`, `\U0a.`, `\X00`,
		"\xff", "\n", "\x00", "\x7f", "\u00a0", "\u0250", "\u20ac", "\ufffd", "ok\xe2", `\\\`, `ok\u0.\`,
	} {
		if u, e := name.Unquote(s); u != "" || e != api.ErrForm {
			t.Errorf("Unquote(%q) is %q, %d", s, u, e)
		}
	}
	// Of all short texts just those hold that are somebody's quoted text.
	signs := []string{`\`, "x", "u", ".", "0", "a", "8", "f", "\u00e9", "\xff"}
	list := []string{""}
	for n := 0; n < 5; n++ {
		for _, s := range list {
			if u, e := name.Unquote(s); e == api.OK && quote(u) != s || e != api.OK && (u != "" || e != api.ErrForm) {
				t.Errorf("Unquote(%q) is %q, %d", s, u, e)
			}
		}
		var next []string
		for _, s := range list {
			for _, c := range signs {
				next = append(next, s+c)
			}
		}
		list = next
	}
}

func TestLongTexts(t *testing.T) {
	s := strings.Repeat("a\xff\n\\\u20ac", 50000)
	if u, e := name.Unquote(name.Quote(s)); u != s || e != api.OK {
		t.Error("a long text isn't unquoted as it was")
	}
	if _, e := name.Unquote(strings.Repeat(`\u`, 500000) + "."); e != api.ErrForm {
		t.Error("a long wrong text")
	}
}
