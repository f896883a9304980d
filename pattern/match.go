package pattern

import (
	"iter"
	"slices"

	"adze/api"
)

// nowhere is told where there is no match.
const nowhere = -1

// Stretch is all runes of a space from the one place up to the other.
type Stretch struct {
	From, To int
}

// Match is what was taken of a space: by all of a pattern at 0, by each group at its number.
type Match [api.MaxGroups + 1]Stretch

// Has tells whether there is a match in a space.
func (p *Pattern) Has(space []rune) bool {
	return p.lookIn(space).firstFrom(0) != nowhere
}

// Matches goes through the matches in a space, each from the end of the one ahead on.
func (p *Pattern) Matches(space []rune) iter.Seq[Match] {
	return func(yield func(Match) bool) {
		p.lookIn(space).eachMatch(yield)
	}
}

// search is the looking for a pattern in one space.
type search struct {
	items []Item
	space []rune
	ends  [][]int // for each item and each place: where the item ends if it begins there, and nowhere if no match goes on so
	steps int     // how often an item or a place was looked at: counted so that P1's bound can be held against what is done
}

// lookIn works the ends out from the last item back, so that no pattern needs more than a step for each item and each place: what is behind an item is known ahead of it, and nothing is tried twice.
func (p *Pattern) lookIn(space []rune) *search {
	s := &search{items: p.Items, space: space, ends: make([][]int, len(p.Items)+1)}
	for i := range s.ends {
		s.ends[i] = make([]int, len(space)+1) // behind the last item a match may end at each place
	}
	for i := len(p.Items) - 1; i >= 0; i-- {
		for at := len(space); at >= 0; at-- {
			s.ends[i][at] = s.end(i, at)
		}
	}
	return s
}

// end takes as many runes as the item may: the ends of all places further on are known.
func (s *search) end(i, at int) int {
	s.steps++
	item, ends, behind := &s.items[i], s.ends[i], s.ends[i+1]
	if at < len(s.space) && item.takes(s.space[at]) {
		if item.takesMany() && ends[at+1] != nowhere {
			return ends[at+1]
		}
		if behind[at+1] != nowhere {
			return at + 1
		}
	}
	if item.takesNone(at, len(s.space)) && behind[at] != nowhere {
		return at
	}
	return nowhere
}

func (s *search) eachMatch(yield func(Match) bool) {
	ended := nowhere
	for at := s.firstFrom(0); at != nowhere; {
		m := s.matchAt(at)
		if m.empty() && at == ended {
			at = s.firstFrom(at + 1)
			continue
		}
		if !yield(m) {
			return
		}
		ended = m[0].To
		at = s.firstFrom(ended)
	}
}

// firstFrom answers the least place, from one on, at which a match begins.
func (s *search) firstFrom(from int) int {
	for at := from; at <= len(s.space); at++ {
		s.steps++
		if s.ends[0][at] != nowhere {
			return at
		}
	}
	return nowhere
}

// matchAt follows the items' ends from a place at which there is a match.
func (s *search) matchAt(first int) Match {
	m := Match{}
	at := first
	for i, item := range s.items {
		s.steps++
		switch item.Kind {
		case Open:
			m[item.Group].From = at
		case Close:
			m[item.Group].To = at
		}
		at = s.ends[i][at]
	}
	m[0] = Stretch{From: first, To: at}
	return m
}

func (m *Match) empty() bool {
	return m[0].From == m[0].To
}

func (i *Item) takes(r rune) bool {
	switch i.Kind {
	case Any:
		return true
	case OneOf:
		return i.has(r)
	case NoneOf:
		return !i.has(r)
	}
	return false
}

func (i *Item) has(r rune) bool {
	return slices.ContainsFunc(i.Spans, func(s Span) bool { return s.From <= r && r <= s.To })
}

func (i *Item) takesMany() bool {
	return i.Times == AnyNumber || i.Times == OneOrMore
}

// takesNone tells whether the item may stand at a place of a space of that length without a rune.
func (i *Item) takesNone(at, length int) bool {
	switch i.Kind {
	case Begin:
		return at == 0
	case End:
		return at == length
	case Open, Close:
		return true
	}
	return i.Times == AnyNumber || i.Times == OneOrNone
}
