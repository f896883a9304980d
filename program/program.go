// Package program reads scripts into commands.
package program

import "adze/pattern"

// AddressKind is what an address is.
type AddressKind int

const (
	Number AddressKind = iota // the line of a number
	Last                      // `$`, the last line
	Match                     // a space in which a pattern has a match
)

// Address means lines.
type Address struct {
	Kind    AddressKind
	Number  int
	Pattern pattern.Pattern
}

// PartKind is what a part of a replacement is.
type PartKind int

const (
	Literal PartKind = iota // a text
	Whole                   // `&`, all that matched
	Group                   // `\` and a digit, what a group matched
)

// Part is one of what a replacement is made of.
type Part struct {
	Kind  PartKind
	Text  string
	Group int
}

// Substitution is what stands behind an `s`.
type Substitution struct {
	Pattern     pattern.Pattern
	Replacement []Part
	All         bool // `g`
	Print       bool // `p`
	Nth         int  // 0, if there is no number
}

// Exchange is what stands behind a `y`: as many runes on both sides.
type Exchange struct {
	From, To []rune
}

// Command is one command: its what, what stands ahead of it, and what stands behind it.
type Command struct {
	What         rune
	Addresses    []Address // two at most
	Not          bool      // `!`
	Text         string    // of `a`, `c`, `i`
	Name         string    // of `:`, `b`, `t`; empty, if there is none
	Goal         int       // of `b`, `t`: the `:` (or the end); of `{`: what is behind its block
	Substitution Substitution
	Exchange     Exchange
}

// Program is the commands of a script, those in blocks laid in one row with all others; a `}` is none.
type Program struct {
	Commands []Command
}
