package span_test

import (
	"math"
	"slices"
	"strings"
	"testing"

	"spoor/api"
	"spoor/span"
	"spoor/wire"
)

var forty = strings.Repeat("\xff", 40)

func row(trace, n int) []api.Span {
	var list []api.Span
	for i := range n {
		list = append(list, api.Span{Trace: trace, Seq: i + 1, Text: strings.Repeat("x", i%41)})
	}
	return list
}

func TestRight(t *testing.T) {
	for _, trace := range []int{math.MinInt, -1, 0, 1, 2, 65535, 65536, math.MaxInt} {
		for _, seq := range []int{math.MinInt, -1, 0, 1, 2, 1 << 31, 1<<31 + 1, math.MaxInt} {
			for _, text := range []string{"", "a", forty, forty + "a", "\u00e9" + forty[:39]} {
				want := trace >= 1 && trace <= 65535 && seq >= 1 && seq <= 1<<31 && len(text) <= 40
				s := api.Span{Trace: trace, Seq: seq, Text: text}
				if span.Right(s) != want {
					t.Errorf("Right(%v)", s)
				}
				if (span.Print([]api.Span{{Trace: 1, Seq: 1}, s}) != "") != want {
					t.Errorf("Print of %v", s)
				}
			}
		}
	}
}

// print is Print, by the words of the chapter.
func print(list []api.Span) string {
	var w wire.Writer
	w.Int(len(list))
	for _, s := range list {
		w.Int(s.Trace)
		w.Int(s.Seq)
		w.Text(s.Text)
	}
	return w.String()
}

func TestPrintAndRead(t *testing.T) {
	for _, list := range [][]api.Span{
		nil, {}, {{Trace: 1, Seq: 1}}, {{Trace: 65535, Seq: 1 << 31, Text: forty}}, {{Trace: 3, Seq: 9, Text: "a"}, {Trace: 2, Seq: 1, Text: "\u20ac\\\n"}, {Trace: 3, Seq: 9, Text: "a"}},
		row(7, 999), row(7, 1000),
	} {
		was := slices.Clone(list)
		s := span.Print(list)
		if s != print(list) {
			t.Errorf("Print of %d spans is %.40q", len(list), s)
		}
		got, e := span.Read(s)
		if e != api.OK || !slices.Equal(got, list) || !slices.Equal(was, list) {
			t.Errorf("%d spans are read as %d, %v", len(list), len(got), e)
		}
	}
	if span.Print(row(7, 1001)) != "" {
		t.Error("1001 spans are printed")
	}
	if span.Print(nil) != "\u1100" {
		t.Error("no spans are one rune")
	}
}

func TestReadOfWrongTexts(t *testing.T) {
	good := print(row(7, 3))
	for i := range good {
		if got, e := span.Read(good[:i]); got != nil || e != api.ErrForm {
			t.Errorf("of the first %d bytes: %v, %v", i, got, e)
		}
	}
	list := []string{"a", "\xff", good + "\u1100", good + "a", "a" + good, print(row(7, 1001)), print([]api.Span{{Trace: 65536, Seq: 1}}), print([]api.Span{{Trace: 0, Seq: 1}}), print([]api.Span{{Trace: 1, Seq: 0}}), print([]api.Span{{Trace: 1, Seq: 1<<31 + 1}}), print([]api.Span{{Trace: 1, Seq: 1, Text: forty + "a"}})}
	for _, s := range list {
		if got, e := span.Read(s); got != nil || e != api.ErrForm {
			t.Errorf("Read(%.30q): %v, %v", s, got, e)
		}
	}
}

func TestChunksAndJoin(t *testing.T) {
	for n := range 12 {
		list := row(5, n)
		chunks := span.Chunks(list)
		want := max((n+1)/2, 1)
		if len(chunks) != want {
			t.Fatalf("%d spans are %d chunks", n, len(chunks))
		}
		for i, c := range chunks {
			if i < want-1 && len(c) != 2 || i == want-1 && len(c) != n-2*i {
				t.Errorf("of %d spans chunk %d has %d", n, i, len(c))
			}
		}
		if got := span.Join(chunks); !slices.Equal(got, list) {
			t.Errorf("%v were joined as %v", list, got)
		}
	}
	if len(span.Join(nil)) != 0 || len(span.Join([][]api.Span{nil, {}, nil})) != 0 {
		t.Error("Join of none")
	}
	a, b := api.Span{Trace: 9, Seq: 9}, api.Span{Trace: 1, Seq: 1}
	if got := span.Join([][]api.Span{{a}, nil, {b, a, b}}); !slices.Equal(got, []api.Span{a, b, a, b}) {
		t.Errorf("Join is %v", got)
	}
}

func TestAnswersAreNewMemory(t *testing.T) {
	list := row(5, 5)
	was := slices.Clone(list)
	chunks := span.Chunks(list)
	for _, c := range chunks {
		_ = append(c, api.Span{Text: "behind"})
	}
	if got := span.Join(chunks); !slices.Equal(got, was) {
		t.Error("chunks share memory")
	}
	joined := span.Join(chunks[:1])
	joined[0].Text = "other"
	chunks[0][1].Text = "other"
	chunks[2][0].Text = "other"
	if !slices.Equal(list, was) || chunks[0][0].Text == "other" || joined[1].Text == "other" {
		t.Error("an answer shares memory with what was handed in")
	}
	roomy := append(make([]api.Span, 0, 8), was[:3]...)
	span.Join([][]api.Span{roomy, was})
	if got := roomy[:8]; got[3] != (api.Span{}) {
		t.Error("Join writes into spare room")
	}
}

func TestRow(t *testing.T) {
	if !span.Row(nil, 7) || !span.Row(row(7, 1), 7) || !span.Row(row(7, 9), 7) {
		t.Error("a row isn't one")
	}
	for i := range 4 {
		list := row(7, 4)
		list[i].Trace = 8
		if span.Row(list, 7) || span.Row(list, 8) {
			t.Errorf("the trace of span %d", i)
		}
		for _, seq := range []int{0, i, i + 2, -1} {
			list = row(7, 4)
			list[i].Seq = seq
			if span.Row(list, 7) {
				t.Errorf("the number %d of span %d", seq, i)
			}
		}
	}
	if span.Row(row(7, 3)[1:], 7) {
		t.Error("a row from 2 on")
	}
}
