package program

import (
	"adze/api"
	"adze/pattern"
	"adze/source"
)

func (p *parser) substitution(c *Command) *source.Fault {
	if !p.from.Take('/') {
		return p.from.Wrong()
	}
	s := &c.Substitution
	var fault *source.Fault
	if s.Pattern, fault = pattern.Read(p.from); fault != nil {
		return fault
	}
	if s.Replacement, fault = p.replacement(s.Pattern.Groups); fault != nil {
		return fault
	}
	return p.flags(s)
}

// replacement reads a replacement and the `/` behind it.
func (p *parser) replacement(groups int) ([]Part, *source.Fault) {
	var parts []Part
	for !p.from.Take('/') {
		part, fault := p.part(groups)
		if fault != nil {
			return nil, fault
		}
		parts = append(parts, part)
	}
	return parts, nil
}

func (p *parser) part(groups int) (Part, *source.Fault) {
	at := p.from.Place()
	if p.from.Take('&') {
		return Part{Kind: Whole}, nil
	}
	if !p.from.Take('\\') {
		return literal(p.from.Plain(`/\&`))
	}
	if r := p.from.Peek(); r == '0' || !source.IsDigit(r) {
		return literal(p.from.Escaped(`/\&`))
	}
	group := int(p.from.Next() - '0')
	if group > groups {
		return Part{}, source.Tell(api.ErrGroup, at)
	}
	return Part{Kind: Group, Group: group}, nil
}

func literal(r rune, fault *source.Fault) (Part, *source.Fault) {
	if fault != nil {
		return Part{}, fault
	}
	return Part{Kind: Literal, Text: string(r)}, nil
}

// flags reads flags as long as there are some; a second one of a kind is left to be found wrong behind the command.
func (p *parser) flags(s *Substitution) *source.Fault {
	for {
		switch r := p.from.Peek(); {
		case r == 'g' && !s.All:
			p.from.Next()
			s.All = true
		case r == 'p' && !s.Print:
			p.from.Next()
			s.Print = true
		case source.IsDigit(r) && s.Nth == 0:
			n, fault := p.number()
			if fault != nil {
				return fault
			}
			s.Nth = n
		default:
			return nil
		}
	}
}
