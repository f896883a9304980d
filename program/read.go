package program

import (
	"adze/api"
	"adze/source"
)

// behind is what may stand behind a command's what.
type behind int

const (
	nothing behind = iota
	block
	line
	label
	labelOrNone
	substitution
	exchange
)

func behinds() map[rune]behind {
	return map[rune]behind{
		'{': block,
		'=': nothing, 'd': nothing, 'D': nothing, 'g': nothing, 'G': nothing,
		'h': nothing, 'H': nothing, 'n': nothing, 'N': nothing, 'p': nothing,
		'P': nothing, 'q': nothing, 'x': nothing,
		'a': line, 'c': line, 'i': line,
		':': label,
		'b': labelOrNone, 't': labelOrNone,
		's': substitution,
		'y': exchange,
	}
}

type parser struct {
	from     *source.Cursor
	behinds  map[rune]behind
	commands []Command
	open     []int // the `{` that have no `}` yet, by their places among the commands
	labels   map[string]labelUse
}

// Read reads a script.
func Read(script string) (*Program, *source.Fault) {
	if len(script) > api.MaxScript {
		return nil, source.Tell(api.ErrLong, 0)
	}
	from, fault := source.New(script)
	if fault != nil {
		return nil, fault
	}
	p := &parser{from: from, behinds: behinds(), labels: map[string]labelUse{}}
	for from.Peek() != source.End {
		if fault := p.gapOrCommand(); fault != nil {
			return nil, fault
		}
	}
	if fault := p.finish(); fault != nil {
		return nil, fault
	}
	return &Program{Commands: p.commands}, nil
}

func (p *parser) gapOrCommand() *source.Fault {
	switch r := p.from.Peek(); {
	case source.IsBlank(r) || r == source.LineEnd || r == ';':
		p.from.Next()
		return nil
	case r == '}':
		return p.closeBlock()
	}
	return p.command()
}

func (p *parser) closeBlock() *source.Fault {
	if len(p.open) == 0 {
		return p.from.Wrong()
	}
	p.from.Next()
	last := len(p.open) - 1
	p.commands[p.open[last]].Goal = len(p.commands)
	p.open = p.open[:last]
	return nil
}

func (p *parser) command() *source.Fault {
	c, fault := p.head()
	if fault != nil {
		return fault
	}
	at := p.from.Place()
	if fault := p.what(&c); fault != nil {
		return fault
	}
	if fault := p.behind(&c, at); fault != nil {
		return fault
	}
	p.commands = append(p.commands, c)
	if c.What == '{' {
		return nil
	}
	return p.tail()
}

// what reads a command's what, ahead of which its addresses and its `!` have been read.
func (p *parser) what(c *Command) *source.Fault {
	at := p.from.Place()
	kind, known := p.behinds[p.from.Peek()]
	if !known || kind == label && !c.bare() {
		return p.from.Wrong()
	}
	if len(p.commands) == api.MaxCommands {
		return source.Tell(api.ErrMany, at)
	}
	if kind == block && len(p.open) == api.MaxNest {
		return source.Tell(api.ErrDeep, at)
	}
	c.What = p.from.Next()
	return nil
}

// bare tells whether nothing stands ahead of the command's what.
func (c *Command) bare() bool {
	return len(c.Addresses) == 0 && !c.Not
}

// behind reads what stands behind a what that stands at a place.
func (p *parser) behind(c *Command, at int) *source.Fault {
	switch p.behinds[c.What] {
	case block:
		p.open = append(p.open, len(p.commands))
		return nil
	case line:
		return p.text(c)
	case label:
		return p.setLabel(c, at)
	case labelOrNone:
		return p.askLabel(c, at)
	case substitution:
		return p.substitution(c)
	case exchange:
		return p.exchange(c, at)
	}
	return nil
}

// tail sees to it that a command is followed by what may part it from the next one, which is left unread.
func (p *parser) tail() *source.Fault {
	p.from.Blanks()
	switch p.from.Peek() {
	case ';', source.LineEnd, '}', source.End:
		return nil
	}
	return p.from.Wrong()
}

func (p *parser) text(c *Command) *source.Fault {
	switch r := p.from.Peek(); {
	case r == source.LineEnd || r == source.End:
		return nil
	case !source.IsBlank(r):
		return p.from.Wrong()
	}
	p.from.Next()
	c.Text = p.from.Line()
	return nil
}

// finish sees what can be seen only when all has been read.
func (p *parser) finish() *source.Fault {
	if len(p.open) > 0 {
		return p.from.Wrong()
	}
	if fault := p.missingLabel(); fault != nil {
		return fault
	}
	p.setGoals()
	return nil
}
