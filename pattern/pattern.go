// Package pattern has what is looked for in a space.
package pattern

// Kind is what an item of a pattern is.
type Kind int

const (
	Begin  Kind = iota // `^`
	End                // `$`
	Open               // `(`
	Close              // `)`
	Any                // a piece: any rune
	OneOf              // a piece: a rune of one of the spans
	NoneOf             // a piece: a rune of none of the spans
)

// Times is how many runes a piece may take.
type Times int

const (
	Once      Times = iota
	AnyNumber       // `*`
	OneOrMore       // `+`
	OneOrNone       // `?`
)

// Span is all runes from the one to the other.
type Span struct {
	From, To rune
}

// Item is one of what a pattern is made of.
type Item struct {
	Kind  Kind
	Group int    // of Open and Close: the group's number, from 1 on
	Spans []Span // of OneOf and NoneOf
	Times Times  // of a piece
}

// Pattern is items, and the number of its groups.
type Pattern struct {
	Items  []Item
	Groups int
}
