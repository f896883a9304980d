package edit

import (
	"adze/pattern"
	"adze/program"
)

func (e *editor) substitute(s *program.Substitution) {
	var changed []rune
	kept, number, found := 0, 0, false
	for m := range s.Pattern.Matches(e.space) {
		number++
		if number < s.Nth {
			continue
		}
		found = true
		changed = append(changed, e.space[kept:m[0].From]...)
		changed = replace(changed, s.Replacement, e.space, &m)
		kept = m[0].To
		if !s.All {
			break
		}
	}
	if !found {
		return
	}
	e.space = append(changed, e.space[kept:]...)
	e.replaced = true
	if s.Print {
		e.print(string(e.space))
	}
}

// replace lays a match's replacement behind what has been changed.
func replace(changed []rune, parts []program.Part, space []rune, m *pattern.Match) []rune {
	for _, part := range parts {
		switch part.Kind {
		case program.Literal:
			changed = append(changed, []rune(part.Text)...)
		case program.Whole:
			changed = append(changed, space[m[0].From:m[0].To]...)
		case program.Group:
			changed = append(changed, space[m[part.Group].From:m[part.Group].To]...)
		}
	}
	return changed
}
