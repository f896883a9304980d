package pattern

import (
	"iter"
	"slices"

	"adze/api"
)

// nowhere is told where there is no match.
const nowhere = -1

// Stretch is all runes of a space from the one place up to the other.
type Stretch struct {
	From, To int
}

// Match is what was taken of a space: by all of a pattern at 0, by each group at its number.
type Match [api.MaxGroups + 1]Stretch

// Has tells whether there is a match in a space.
func (p *Pattern) Has(space []rune) bool {
	return firstFrom(p.ends(space)[0], 0) != nowhere
}

// Matches goes through the matches in a space, each from the end of the one ahead on.
func (p *Pattern) Matches(space []rune) iter.Seq[Match] {
	return func(yield func(Match) bool) {
		ends := p.ends(space)
		ended := nowhere
		for at := firstFrom(ends[0], 0); at != nowhere; {
			m := p.matchAt(ends, at)
			if m.empty() && at == ended {
				at = firstFrom(ends[0], at+1)
				continue
			}
			if !yield(m) {
				return
			}
			ended = m[0].To
			at = firstFrom(ends[0], ended)
		}
	}
}

func (m *Match) empty() bool {
	return m[0].From == m[0].To
}

// firstFrom answers the least place, from one on, that has an end.
func firstFrom(ends []int, from int) int {
	for at := from; at < len(ends); at++ {
		if ends[at] != nowhere {
			return at
		}
	}
	return nowhere
}

// matchAt follows the items' ends from a place at which there is a match.
func (p *Pattern) matchAt(ends [][]int, first int) Match {
	m := Match{}
	at := first
	for i, item := range p.Items {
		switch item.Kind {
		case Open:
			m[item.Group].From = at
		case Close:
			m[item.Group].To = at
		}
		at = ends[i][at]
	}
	m[0] = Stretch{From: first, To: at}
	return m
}

// ends answers for each item and each place where the item ends if it begins there, and nowhere if no match goes on so.
// It is worked out from the last item back, so that no pattern needs more than a step for each item and each place: what is behind an item is known ahead of it, and nothing is tried twice.
func (p *Pattern) ends(space []rune) [][]int {
	all := make([][]int, len(p.Items)+1)
	all[len(p.Items)] = make([]int, len(space)+1) // behind the last item a match may end at each place
	for i := len(p.Items) - 1; i >= 0; i-- {
		all[i] = p.Items[i].ends(space, all[i+1])
	}
	return all
}

// ends answers the same of one item, by what it is of the next one.
func (i *Item) ends(space []rune, behind []int) []int {
	ends := make([]int, len(behind))
	for at := len(space); at >= 0; at-- {
		ends[at] = i.end(space, at, ends, behind)
	}
	return ends
}

// end takes as many runes as it may: the ends of all places further on are known.
func (i *Item) end(space []rune, at int, ends, behind []int) int {
	if at < len(space) && i.takes(space[at]) {
		if i.takesMany() && ends[at+1] != nowhere {
			return ends[at+1]
		}
		if behind[at+1] != nowhere {
			return at + 1
		}
	}
	if i.takesNone(at, len(space)) && behind[at] != nowhere {
		return at
	}
	return nowhere
}

func (i *Item) takes(r rune) bool {
	switch i.Kind {
	case Any:
		return true
	case OneOf:
		return i.has(r)
	case NoneOf:
		return !i.has(r)
	}
	return false
}

func (i *Item) has(r rune) bool {
	return slices.ContainsFunc(i.Spans, func(s Span) bool { return s.From <= r && r <= s.To })
}

func (i *Item) takesMany() bool {
	return i.Times == AnyNumber || i.Times == OneOrMore
}

// takesNone tells whether the item may stand at a place of a space of that length without a rune.
func (i *Item) takesNone(at, length int) bool {
	switch i.Kind {
	case Begin:
		return at == 0
	case End:
		return at == length
	case Open, Close:
		return true
	}
	return i.Times == AnyNumber || i.Times == OneOrNone
}
