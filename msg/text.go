package msg

import (
	"spoor/api"
	"spoor/hash"
	"spoor/span"
	"spoor/wire"
)

const (
	half      = 1 << 16 // a sum is told as two numbers below it
	maxNumber = 1 << 30 // no number of a message is greater
	maxSpans  = 1 << 10 // bytes: the text of two spans has fewer
)

// Print: as a text.
func Print(m Message) string {
	if !mayBe(m) {
		return ""
	}
	var w wire.Writer
	w.Int(m.Kind())
	writeFields(&w, m)
	sum := hash.Check(w.String())
	w.Int(int(sum/half), int(sum%half))
	return w.String()
}

func writeFields(w *wire.Writer, m Message) {
	switch x := m.(type) {
	case Trigger:
		w.Int(x.Agent, x.Trace, x.Class)
	case Pin:
		w.Int(x.Trace, x.Job)
	case Pinned:
		writePinned(w, x)
	case Gone:
		w.Int(x.Agent, x.Trace, x.Job)
	case Collect:
		w.Int(x.Trace, x.Job)
	case Chunk:
		w.Int(x.Agent, x.Trace, x.Job, x.Index, x.Total)
		w.Text(span.Print(x.Spans))
	case Manifest:
		w.Int(x.Trace, x.Job, x.Class, len(x.Parts))
		for _, p := range x.Parts {
			writePinned(w, p)
		}
	case Stored:
		w.Int(x.Trace, x.Job)
	case Unpin:
		w.Int(x.Trace, x.Job)
	case Unpinned:
		w.Int(x.Agent, x.Trace, x.Job)
	}
}

func writePinned(w *wire.Writer, m Pinned) {
	w.Int(m.Agent, m.Trace, m.Job, m.Count, len(m.Crumbs))
	w.Int(m.Crumbs...)
	lost := 0
	if m.Lost {
		lost = 1
	}
	w.Int(lost)
}

// Read: and back.
func Read(s string) (Message, api.Errno) {
	r := wire.NewReader(s)
	m := readFields(r)
	r.Int(0, half-1)
	r.Int(0, half-1)
	if !r.Done() || !mayBe(m) {
		return nil, api.ErrForm
	}
	// A message has one text: all but the sum is the same.
	if Print(m) != s {
		return nil, api.ErrSum
	}
	return m, api.OK
}

// readFields takes a kind and its fields. Whether the message may be, is still to be asked; nil, if it is none.
func readFields(r *wire.Reader) Message {
	switch r.Int(kindTrigger, kindUnpinned) {
	case kindTrigger:
		return Trigger{Agent: number(r), Trace: number(r), Class: number(r)}
	case kindPin:
		return Pin{Trace: number(r), Job: number(r)}
	case kindPinned:
		return readPinned(r)
	case kindGone:
		return Gone{Agent: number(r), Trace: number(r), Job: number(r)}
	case kindCollect:
		return Collect{Trace: number(r), Job: number(r)}
	case kindChunk:
		return readChunk(r)
	case kindManifest:
		return readManifest(r)
	case kindStored:
		return Stored{Trace: number(r), Job: number(r)}
	case kindUnpin:
		return Unpin{Trace: number(r), Job: number(r)}
	case kindUnpinned:
		return Unpinned{Agent: number(r), Trace: number(r), Job: number(r)}
	}
	return nil
}

func number(r *wire.Reader) int { return r.Int(0, maxNumber) }

func readPinned(r *wire.Reader) Pinned {
	m := Pinned{Agent: number(r), Trace: number(r), Job: number(r), Count: number(r)}
	for range r.Int(0, api.MaxAgents) {
		m.Crumbs = append(m.Crumbs, number(r))
	}
	m.Lost = r.Int(0, 1) == 1
	return m
}

func readChunk(r *wire.Reader) Message {
	m := Chunk{Agent: number(r), Trace: number(r), Job: number(r), Index: number(r), Total: number(r)}
	spans, e := span.Read(r.Text(maxSpans))
	if e != api.OK {
		return nil
	}
	m.Spans = spans
	return m
}

func readManifest(r *wire.Reader) Manifest {
	m := Manifest{Trace: number(r), Job: number(r), Class: number(r)}
	for range r.Int(0, api.MaxAgents) {
		m.Parts = append(m.Parts, readPinned(r))
	}
	return m
}
