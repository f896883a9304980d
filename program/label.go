package program

import (
	"adze/api"
	"adze/source"
)

// none stands for a place that is not there.
const none = -1

// labelUse is where a name is a label, and where it is asked for.
type labelUse struct {
	set   int // its `:` among the commands, or none
	asked int // the first `b` or `t` with it, in bytes, or none
}

func (p *parser) use(name string) labelUse {
	if known, ok := p.labels[name]; ok {
		return known
	}
	return labelUse{set: none, asked: none}
}

func (p *parser) setLabel(c *Command, at int) *source.Fault {
	if !isLetter(p.from.Peek()) {
		return p.from.Wrong()
	}
	if fault := p.name(c); fault != nil {
		return fault
	}
	use := p.use(c.Name)
	if use.set != none {
		return source.Tell(api.ErrLabel, at)
	}
	use.set = len(p.commands)
	p.labels[c.Name] = use
	return nil
}

func (p *parser) askLabel(c *Command, at int) *source.Fault {
	p.from.Blanks()
	if !isLetter(p.from.Peek()) {
		return nil
	}
	if fault := p.name(c); fault != nil {
		return fault
	}
	use := p.use(c.Name)
	if use.asked == none {
		use.asked = at
	}
	p.labels[c.Name] = use
	return nil
}

func isLetter(r rune) bool {
	return 'a' <= r && r <= 'z'
}

func (p *parser) name(c *Command) *source.Fault {
	at := p.from.Place()
	var letters []rune
	for isLetter(p.from.Peek()) {
		letters = append(letters, p.from.Next())
	}
	if len(letters) > api.MaxName {
		return source.Tell(api.ErrRange, at)
	}
	c.Name = string(letters)
	return nil
}

// missingLabel takes the least place of all, so that the map's order is not seen.
func (p *parser) missingLabel() *source.Fault {
	first := none
	for _, use := range p.labels {
		if use.set == none && (first == none || use.asked < first) {
			first = use.asked
		}
	}
	if first == none {
		return nil
	}
	return source.Tell(api.ErrLabel, first)
}

// setGoals waits for the end of the script, as a label may stand behind what asks for it.
func (p *parser) setGoals() {
	for i := range p.commands {
		c := &p.commands[i]
		if p.behinds[c.What] != labelOrNone {
			continue
		}
		c.Goal = len(p.commands)
		if c.Name != "" {
			c.Goal = p.labels[c.Name].set
		}
	}
}
