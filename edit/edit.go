// Package edit changes texts by the commands of a program.
package edit

import (
	"strings"
	"unicode/utf8"

	"adze/api"
	"adze/program"
)

const lineEnd = '\n'

// editor is made anew for each text, so that nothing of one is left for the next.
type editor struct {
	commands []program.Command
	quiet    bool
	lines    []string
	line     int // the number of the line that was read last
	space    []rune
	hold     []rune
	queue    []string
	open     []bool // of each command, whether it is open
	replaced bool   // whether a `t` goes
	next     int    // the command that is come to next
	dropped  bool   // whether the cycle ends without its end
	over     bool   // whether no line is read any more
	steps    int
	out      strings.Builder
	err      api.Errno
}

// Run changes a text, and answers all that is put out.
func Run(p *program.Program, input string, quiet bool) (string, api.Errno) {
	if len(input) > api.MaxInput {
		return "", api.ErrLong
	}
	if !utf8.ValidString(input) {
		return "", api.ErrRune
	}
	e := &editor{commands: p.Commands, quiet: quiet, lines: split(input), open: make([]bool, len(p.Commands))}
	for e.goesOn() && !e.over && e.hasNext() {
		e.cycle()
	}
	if e.err != api.OK {
		return "", e.err
	}
	return e.out.String(), api.OK
}

// split leaves out the last line's end, behind which there is no line more.
func split(input string) []string {
	if input == "" {
		return nil
	}
	return strings.Split(strings.TrimSuffix(input, string(lineEnd)), string(lineEnd))
}

func (e *editor) goesOn() bool {
	return e.err == api.OK
}

func (e *editor) hasNext() bool {
	return e.line < len(e.lines)
}

// read answers the next line, which must be there.
func (e *editor) read() []rune {
	line := e.lines[e.line]
	e.line++
	e.replaced = false
	return []rune(line)
}

func (e *editor) cycle() {
	e.space = e.read()
	e.next = 0
	e.dropped = false
	for e.goesOn() && e.next < len(e.commands) {
		e.step()
	}
	if e.goesOn() && !e.dropped {
		e.end()
	}
}

// step comes to one command.
func (e *editor) step() {
	e.checkSpace()
	e.countStep()
	if !e.goesOn() {
		return
	}
	at := e.next
	c := &e.commands[at]
	e.next++
	if e.means(at) != c.Not {
		e.do(c)
	} else if c.What == '{' {
		e.next = c.Goal
	}
}

// end is the cycle's end.
func (e *editor) end() {
	e.checkSpace()
	if !e.quiet {
		e.print(string(e.space))
	}
	e.tellQueue()
}

func (e *editor) tellQueue() {
	for _, text := range e.queue {
		e.print(text)
	}
	e.queue = nil
}

// print puts out nothing behind an error, so that no later one is told instead.
func (e *editor) print(text string) {
	if !e.goesOn() {
		return
	}
	e.out.WriteString(text)
	e.out.WriteRune(lineEnd)
	if e.out.Len() > api.MaxOutput {
		e.err = api.ErrOutput
	}
}

func (e *editor) checkSpace() {
	if e.goesOn() && max(len(e.space), len(e.hold)) > api.MaxSpace {
		e.err = api.ErrSpace
	}
}

func (e *editor) countStep() {
	e.steps++
	if e.goesOn() && e.steps > api.MaxSteps {
		e.err = api.ErrSteps
	}
}
