package script_test

import (
	"math"
	"math/rand"
	"slices"
	"strings"
	"testing"

	"spoor/api"
	"spoor/cluster"
	"spoor/hash"
	"spoor/script"
	"spoor/wire"
)

var sixty = strings.Repeat("\x1f", 60)

func text(a api.Act) string {
	var w wire.Writer
	w.Int(a.Kind)
	w.Int(a.A)
	w.Int(a.B)
	w.Int(a.T)
	w.Text(a.Text)
	return w.String()
}

func join(list []api.Act) string {
	s := ""
	for _, a := range list {
		s += text(a)
	}
	return s
}

// good: acts that a text may have.
func good() []api.Act {
	return []api.Act{{}, {Kind: 12, A: 5, B: 100000, T: 70000, Text: sixty}, {Kind: 1, Text: "\xff"}, {Kind: 7, B: 4096}, {Kind: 11, T: 4095, Text: "\u20ac\\u41."}, {Kind: 2, A: 3, B: 1, T: 7}}
}

func spoilt() []api.Act {
	var list []api.Act
	for _, n := range []int{math.MinInt, -1, 13, math.MaxInt} {
		list = append(list, api.Act{Kind: n})
	}
	for _, n := range []int{math.MinInt, -1, 6, math.MaxInt} {
		list = append(list, api.Act{A: n})
	}
	for _, n := range []int{math.MinInt, -1, 100001, math.MaxInt} {
		list = append(list, api.Act{B: n})
	}
	for _, n := range []int{math.MinInt, -1, 70001, math.MaxInt} {
		list = append(list, api.Act{T: n})
	}
	return append(list, api.Act{Text: sixty + "a"})
}

func TestPrintAndRead(t *testing.T) {
	for _, list := range [][]api.Act{nil, good()[:1], good(), append(good(), good()...)} {
		was := slices.Clone(list)
		s, e := script.Print(list...)
		if e != api.OK || s != join(list) || !slices.Equal(list, was) {
			t.Errorf("Print of %d acts: %v, %q", len(list), e, s)
		}
		if got := script.Read(s); !slices.Equal(got, list) {
			t.Errorf("%v are read as %v", list, got)
		}
	}
	for _, a := range spoilt() {
		for _, list := range [][]api.Act{{a}, {{Kind: 1}, a}, {a, {Kind: 1}}} {
			if s, e := script.Print(list...); s != "" || e != api.ErrArg {
				t.Errorf("Print of %v: %v", list, e)
			}
		}
	}
}

// full has as many bytes as a script may have.
func full() []api.Act {
	list := make([]api.Act, 1091)
	return append(list, api.Act{Kind: 7, Text: "abcd"})
}

func TestFull(t *testing.T) {
	list := full()
	s, e := script.Print(list...)
	if len(s) != 1<<14 || e != api.OK || !slices.Equal(script.Read(s), list) {
		t.Fatalf("Print of %d bytes: %d, %v", 1<<14, len(s), e)
	}
	list[5].Text = "a"
	if s, e := script.Print(list...); s != "" || e != api.ErrFull {
		t.Errorf("Print of a byte more: %d, %v", len(s), e)
	}
	list[1091].Kind = 13
	if s, e := script.Print(list...); s != "" || e != api.ErrArg {
		t.Errorf("Print of a byte more, and a wrong act: %d, %v", len(s), e)
	}
	// What stands behind the first 2^14 bytes isn't read.
	if got := script.Read(s + text(api.Act{Kind: 1})); !slices.Equal(got, full()) {
		t.Errorf("of more %d acts are read", len(got))
	}
	if got := script.Read(text(api.Act{Text: "a"}) + s); len(got) != 1092 || got[1091] != (api.Act{}) {
		t.Errorf("%d acts are read", len(got))
	}
	over := join(good()) + strings.Repeat("x", 1<<14)
	if got := script.Read(over); !slices.Equal(got, good()) {
		t.Errorf("%d acts are read", len(got))
	}
}

func TestReadUpToTheFirstWrongPlace(t *testing.T) {
	list := good()
	s := join(list)
	at, n := 0, 0
	for i := range len(s) + 1 {
		if n < len(list) && i == at+len(text(list[n])) {
			at, n = i, n+1
		}
		if got := script.Read(s[:i]); !slices.Equal(got, list[:n]) {
			t.Errorf("of %d bytes %d acts are read, not %d", i, len(got), n)
		}
	}
	for _, wrong := range append(spoilt(), api.Act{Kind: 13}) {
		if wrong.Kind < 0 || wrong.A < 0 || wrong.B < 0 || wrong.T < 0 {
			continue
		}
		for n := range list {
			if got := script.Read(join(list[:n]) + text(wrong) + join(list[n:])); !slices.Equal(got, list[:n]) {
				t.Errorf("%v is read: %v", wrong, got)
			}
		}
	}
	for _, s := range []string{"", "a", "\xff", "\u1100", "\x00\x00"} {
		if got := script.Read(s); len(got) != 0 {
			t.Errorf("Read(%q): %v", s, got)
		}
	}
}

func TestConfig(t *testing.T) {
	for i := range 500 {
		s := strings.Repeat("x", i*50) + strings.Repeat("y", i)
		h := hash.Sum(s)
		got := script.Config(s)
		want := api.Config{Agents: 1 + int(h&3), Buffers: 1 + int(h>>2&7), Lease: 1 + int((h>>5)%60), Jobs: 1 + int(h>>11&3), Seed: h, Burst: 3, Rate: 1}
		if got != want {
			t.Fatalf("Config: %v, not %v", got, want)
		}
		if _, e := cluster.New(got); e != api.OK {
			t.Fatalf("%v may not be", got)
		}
	}
}

func answersText(list []cluster.Answer) string {
	var w wire.Writer
	for _, a := range list {
		w.Int(int(a.Err), a.N)
		w.Text(a.Text)
	}
	return w.String()
}

func TestAnswers(t *testing.T) {
	list := []cluster.Answer{{}, {Err: 13, N: 1 << 30, Text: strings.Repeat("\xff", 60008)}, {Err: 1}, {N: 5, Text: "a"}}
	s := answersText(list)
	if got, e := script.Answers(s); e != api.OK || !slices.Equal(got, list) {
		t.Errorf("Answers: %d, %v", len(got), e)
	}
	if got, e := script.Answers(""); e != api.OK || len(got) != 0 {
		t.Errorf("Answers of nothing: %v, %v", got, e)
	}
	for _, wrong := range []cluster.Answer{{Err: 14}, {N: 1<<30 + 1}, {Text: strings.Repeat("a", 60009)}} {
		for _, s := range []string{answersText([]cluster.Answer{wrong}), answersText([]cluster.Answer{{}, wrong, {}})} {
			if got, e := script.Answers(s); e != api.ErrForm || got != nil {
				t.Errorf("Answers of a wrong one: %d, %v", len(got), e)
			}
		}
	}
	short := answersText([]cluster.Answer{{N: 1}, {Text: "ab"}})
	for i := range len(short) + 1 {
		got, e := script.Answers(short[:i])
		n := map[int]int{0: 0, len(answersText([]cluster.Answer{{N: 1}})): 1, len(short): 2}
		if want, whole := n[i]; whole && (e != api.OK || len(got) != want) || !whole && (e != api.ErrForm || got != nil) {
			t.Errorf("of %d bytes %v, %v", i, got, e)
		}
	}
	for _, s := range []string{"a", "\xff", short + "a", short + "\u1100"} {
		if got, e := script.Answers(s); e != api.ErrForm || got != nil {
			t.Errorf("Answers(%q): %v, %v", s, got, e)
		}
	}
}

// run does the acts of a text, one by one.
func run(s string) string {
	x, _ := cluster.New(script.Config(s))
	var list []cluster.Answer
	for _, a := range script.Read(s) {
		list = append(list, x.Do(a))
	}
	return answersText(list)
}

func TestRun(t *testing.T) {
	if script.Run("") != "" || script.Run("\xff") != "" || script.Run("no script") != "" {
		t.Error("Run of no acts")
	}
	var w wire.Writer
	w.Int(0, 1)
	w.Text("")
	w.Int(1, 0)
	w.Text("")
	if got := script.Run(text(api.Act{Kind: 1, T: 7, Text: "a"}) + text(api.Act{Kind: 12})); got != w.String() {
		t.Errorf("Run: %q", got)
	}
}

func TestAnyBytesRun(t *testing.T) {
	rnd := rand.New(rand.NewSource(20))
	check := func(s string) {
		t.Helper()
		got := script.Run(s)
		if got != run(s) {
			t.Errorf("Run(%.40q) is another one than its acts", s)
		}
		list, e := script.Answers(got)
		if e != api.OK || len(list) != len(script.Read(s)) {
			t.Errorf("Run(%.40q): %d answers, %v", s, len(list), e)
		}
	}
	for range 200 {
		b := make([]byte, rnd.Intn(300))
		rnd.Read(b)
		check(string(b))
		s := join(someActs(rnd, 1+rnd.Intn(4), rnd.Intn(300)))
		check(s)
		check(s + string(b))
		if len(s) > 0 {
			b = []byte(s)
			b[rnd.Intn(len(b))] ^= byte(1 << rnd.Intn(8))
			check(string(b))
		}
	}
	check(join(someActs(rnd, 4, 1500)))
}
