package program

import (
	"adze/api"
	"adze/pattern"
	"adze/source"
)

// head reads a command's addresses and its `!`, and the blanks ahead of its what.
func (p *parser) head() (Command, *source.Fault) {
	c := Command{}
	if p.atAddress() {
		if fault := p.addresses(&c); fault != nil {
			return Command{}, fault
		}
	}
	if p.from.Take('!') {
		c.Not = true
		p.from.Blanks()
	}
	return c, nil
}

func (p *parser) atAddress() bool {
	r := p.from.Peek()
	return source.IsDigit(r) || r == '$' || r == '/'
}

func (p *parser) addresses(c *Command) *source.Fault {
	if fault := p.address(c); fault != nil {
		return fault
	}
	if !p.from.Take(',') {
		return nil
	}
	p.from.Blanks()
	return p.address(c)
}

// address reads one address and the blanks behind it, all of which may stand ahead of what comes next.
func (p *parser) address(c *Command) *source.Fault {
	if !p.atAddress() {
		return p.from.Wrong()
	}
	a := Address{}
	var fault *source.Fault
	switch {
	case p.from.Take('$'):
		a.Kind = Last
	case p.from.Take('/'):
		a.Kind = Match
		a.Pattern, fault = pattern.Read(p.from)
	default:
		a.Kind = Number
		a.Number, fault = p.number()
	}
	if fault != nil {
		return fault
	}
	c.Addresses = append(c.Addresses, a)
	p.from.Blanks()
	return nil
}

func (p *parser) number() (int, *source.Fault) {
	at := p.from.Place()
	n := 0
	for source.IsDigit(p.from.Peek()) {
		// Held down, so that no row of digits wraps round.
		n = min(n*10+int(p.from.Next()-'0'), api.MaxNumber+1)
	}
	if n == 0 || n > api.MaxNumber {
		return 0, source.Tell(api.ErrRange, at)
	}
	return n, nil
}
