package msg

import (
	"spoor/api"
	"spoor/span"
)

const (
	maxJob   = 1 << 30
	maxCount = 1000 // spans of an agent
	maxTotal = 500  // chunks of an agent
)

// Right: may it be?
func Right(m Message) bool { return mayBe(m) }

func mayBe(m Message) bool {
	switch x := m.(type) {
	case Trigger:
		return isAgent(x.Agent) && isTrace(x.Trace) && isClass(x.Class)
	case Pin:
		return isTrace(x.Trace) && isJob(x.Job)
	case Pinned:
		return pinnedMayBe(x)
	case Gone:
		return isAgent(x.Agent) && isTrace(x.Trace) && isJob(x.Job)
	case Collect:
		return isTrace(x.Trace) && isJob(x.Job)
	case Chunk:
		return chunkMayBe(x)
	case Manifest:
		return manifestMayBe(x)
	case Stored:
		return isTrace(x.Trace) && isJob(x.Job)
	case Unpin:
		return isTrace(x.Trace) && isJob(x.Job)
	case Unpinned:
		return isAgent(x.Agent) && isTrace(x.Trace) && isJob(x.Job)
	}
	return false
}

func isAgent(n int) bool { return n >= 0 && n < api.MaxAgents }

func isTrace(n int) bool { return n >= 1 && n <= api.MaxTrace }

func isJob(n int) bool { return n >= 1 && n <= maxJob }

func isClass(n int) bool { return n >= 0 && n < api.MaxClasses }

func pinnedMayBe(m Pinned) bool {
	return isAgent(m.Agent) && isTrace(m.Trace) && isJob(m.Job) && m.Count >= 0 && m.Count <= maxCount && risingAgents(m.Crumbs)
}

// risingAgents tells whether they are agents, rising, each once.
func risingAgents(list []int) bool {
	last := -1
	for _, agent := range list {
		if !isAgent(agent) || agent <= last {
			return false
		}
		last = agent
	}
	return true
}

func chunkMayBe(m Chunk) bool {
	if !isAgent(m.Agent) || !isTrace(m.Trace) || !isJob(m.Job) {
		return false
	}
	if m.Total < 1 || m.Total > maxTotal || m.Index < 0 || m.Index >= m.Total || len(m.Spans) > api.ChunkLen {
		return false
	}
	for _, s := range m.Spans {
		if !span.Right(s) || s.Trace != m.Trace {
			return false
		}
	}
	return true
}

func manifestMayBe(m Manifest) bool {
	if !isTrace(m.Trace) || !isJob(m.Job) || !isClass(m.Class) || len(m.Parts) == 0 {
		return false
	}
	last := -1
	for _, p := range m.Parts {
		if !pinnedMayBe(p) || p.Trace != m.Trace || p.Job != m.Job || p.Agent <= last {
			return false
		}
		last = p.Agent
	}
	return true
}
