package program

import (
	"slices"

	"adze/api"
	"adze/source"
)

func (p *parser) exchange(c *Command, at int) *source.Fault {
	if !p.from.Take('/') {
		return p.from.Wrong()
	}
	y := &c.Exchange
	var fault *source.Fault
	if y.From, fault = p.side(); fault != nil {
		return fault
	}
	if y.To, fault = p.side(); fault != nil {
		return fault
	}
	if len(y.From) != len(y.To) || hasTwice(y.From) {
		return source.Tell(api.ErrRange, at)
	}
	return nil
}

// side reads the runes of one side and the `/` behind them.
func (p *parser) side() ([]rune, *source.Fault) {
	var runes []rune
	for !p.from.Take('/') {
		r, fault := p.sideRune()
		if fault != nil {
			return nil, fault
		}
		runes = append(runes, r)
	}
	return runes, nil
}

func (p *parser) sideRune() (rune, *source.Fault) {
	if p.from.Take('\\') {
		return p.from.Escaped(`/\`)
	}
	return p.from.Plain(`/\`)
}

func hasTwice(runes []rune) bool {
	for i, r := range runes {
		if slices.Contains(runes[:i], r) {
			return true
		}
	}
	return false
}
