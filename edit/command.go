package edit

import (
	"slices"
	"strconv"

	"adze/program"
)

// do does a command that is to be done; a `{` and a `:` are left by coming to what is behind them.
func (e *editor) do(c *program.Command) {
	switch c.What {
	case '=':
		e.print(strconv.Itoa(e.line))
	case 'a':
		e.queue = append(e.queue, c.Text)
	case 'b':
		e.next = c.Goal
	case 'c':
		e.print(c.Text)
		e.drop()
	case 'd':
		e.drop()
	case 'D':
		e.dropFirstLine()
	case 'g':
		e.space = slices.Clone(e.hold)
	case 'G':
		e.space = join(e.space, e.hold)
	case 'h':
		e.hold = slices.Clone(e.space)
	case 'H':
		e.hold = join(e.hold, e.space)
	case 'i':
		e.print(c.Text)
	case 'n':
		e.nextLine()
	case 'N':
		e.joinNextLine()
	case 'p':
		e.print(string(e.space))
	case 'P':
		e.print(string(e.firstLine()))
	case 'q':
		e.quit()
	case 's':
		e.substitute(&c.Substitution)
	case 't':
		e.goIfReplaced(c.Goal)
	case 'x':
		e.space, e.hold = e.hold, e.space
	case 'y':
		exchange(e.space, &c.Exchange)
	}
}

// join lays a line's end and what is behind it into what is ahead, which no one else may hold.
func join(ahead, behind []rune) []rune {
	return append(append(ahead, lineEnd), behind...)
}

func (e *editor) firstLine() []rune {
	if end := slices.Index(e.space, lineEnd); end >= 0 {
		return e.space[:end]
	}
	return e.space
}

// drop ends the cycle without its end.
func (e *editor) drop() {
	e.tellQueue()
	e.dropped = true
	e.next = len(e.commands)
}

func (e *editor) dropFirstLine() {
	first := len(e.firstLine())
	if first == len(e.space) {
		e.drop()
		return
	}
	e.space = e.space[first+1:]
	e.tellQueue()
	e.next = 0
}

// quit leaves the cycle's end to the cycle.
func (e *editor) quit() {
	e.over = true
	e.next = len(e.commands)
}

func (e *editor) nextLine() {
	if !e.hasNext() {
		e.quit()
		return
	}
	e.end()
	e.space = e.read()
}

func (e *editor) joinNextLine() {
	if !e.hasNext() {
		e.quit()
		return
	}
	e.space = join(e.space, e.read())
	e.tellQueue()
}

func (e *editor) goIfReplaced(goal int) {
	if e.replaced {
		e.replaced = false
		e.next = goal
	}
}

func exchange(space []rune, y *program.Exchange) {
	for at, r := range space {
		if i := slices.Index(y.From, r); i >= 0 {
			space[at] = y.To[i]
		}
	}
}
