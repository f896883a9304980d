// Package source goes through a script rune by rune, and tells faults by their place in bytes.
package source

import (
	"strings"
	"unicode/utf8"

	"adze/api"
)

// End is what Peek answers behind the last rune.
const End rune = -1

// LineEnd is a line's end.
const LineEnd rune = '\n'

// Fault is what is wrong with a script, and where.
type Fault struct {
	Err api.Errno
	At  int
}

// Tell makes a fault.
func Tell(err api.Errno, at int) *Fault {
	return &Fault{Err: err, At: at}
}

// Cursor stands ahead of one of a script's runes, or at its end.
type Cursor struct {
	runes  []rune
	places []int // each rune's first byte, and the script's length behind the last
	next   int
}

// New makes a cursor ahead of the first rune, if all of the text is well-formed.
func New(text string) (*Cursor, *Fault) {
	c := &Cursor{}
	for at, r := range text {
		if r == utf8.RuneError && !spelledOut(text[at:]) {
			return nil, Tell(api.ErrRune, at)
		}
		c.runes = append(c.runes, r)
		c.places = append(c.places, at)
	}
	c.places = append(c.places, len(text))
	return c, nil
}

// spelledOut tells the rune U+FFFD, which may stand in a text, from a bad byte, which ranging shows as the same rune.
func spelledOut(rest string) bool {
	return strings.HasPrefix(rest, string(utf8.RuneError))
}

// Peek answers the rune that the cursor stands ahead of, or End.
func (c *Cursor) Peek() rune {
	if c.next >= len(c.runes) {
		return End
	}
	return c.runes[c.next]
}

// Next answers what Peek does, and steps over it.
func (c *Cursor) Next() rune {
	r := c.Peek()
	if r != End {
		c.next++
	}
	return r
}

// Take steps over the wanted rune, if it is the next one.
func (c *Cursor) Take(wanted rune) bool {
	if c.Peek() != wanted {
		return false
	}
	c.Next()
	return true
}

// Place answers the next rune's first byte, or the script's length.
func (c *Cursor) Place() int {
	return c.places[c.next]
}

// Wrong tells that the next rune can't stand here, or that the script ends too early.
func (c *Cursor) Wrong() *Fault {
	return Tell(api.ErrForm, c.Place())
}

// Blanks steps over blanks.
func (c *Cursor) Blanks() {
	for IsBlank(c.Peek()) {
		c.Next()
	}
}

// Line answers all up to the line's end or the script's end, as new memory.
func (c *Cursor) Line() string {
	first := c.next
	for c.Peek() != End && c.Peek() != LineEnd {
		c.Next()
	}
	return string(c.runes[first:c.next])
}

// Escaped reads what stands behind a `\`: one of the allowed runes, or `n`, a line's end.
func (c *Cursor) Escaped(allowed string) (rune, *Fault) {
	if c.Take('n') {
		return LineEnd, nil
	}
	if !strings.ContainsRune(allowed, c.Peek()) {
		return 0, c.Wrong()
	}
	return c.Next(), nil
}

// Plain reads a rune that is neither a line's end nor one of those that mean something else here.
func (c *Cursor) Plain(but string) (rune, *Fault) {
	r := c.Peek()
	if r == End || r == LineEnd || strings.ContainsRune(but, r) {
		return 0, c.Wrong()
	}
	return c.Next(), nil
}

// IsBlank tells whether a rune is a blank.
func IsBlank(r rune) bool {
	return r == ' ' || r == '\t'
}

// IsDigit tells whether a rune is a digit.
func IsDigit(r rune) bool {
	return '0' <= r && r <= '9'
}
