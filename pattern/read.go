package pattern

import (
	"adze/api"
	"adze/source"
)

const (
	escapable   = `\.[]()*+?^$/-`
	notAPiece   = `\.[()*+?^$/`
	notAMember  = `\]^-[/`
	patternsEnd = '/'
)

type reader struct {
	from   *source.Cursor
	items  []Item
	groups int
	open   []int // the numbers of the groups that have no `)` yet
}

// Read reads a pattern from its first rune on, and the `/` behind it.
func Read(from *source.Cursor) (Pattern, *source.Fault) {
	first := from.Place()
	r := &reader{from: from}
	for from.Peek() != patternsEnd {
		if fault := r.item(); fault != nil {
			return Pattern{}, fault
		}
	}
	from.Next()
	if len(r.items) > api.MaxItems {
		return Pattern{}, source.Tell(api.ErrRange, first)
	}
	if len(r.open) > 0 {
		return Pattern{}, source.Tell(api.ErrGroup, first)
	}
	return Pattern{Items: r.items, Groups: r.groups}, nil
}

func (r *reader) item() *source.Fault {
	if r.ended() {
		return r.from.Wrong()
	}
	switch r.from.Peek() {
	case '^':
		return r.begin()
	case '$':
		r.from.Next()
		r.add(Item{Kind: End})
		return nil
	case '(':
		return r.openGroup()
	case ')':
		return r.closeGroup()
	}
	return r.piece()
}

// ended tells whether a `$` has been read, behind which no item can stand.
func (r *reader) ended() bool {
	return len(r.items) > 0 && r.items[len(r.items)-1].Kind == End
}

func (r *reader) add(item Item) {
	r.items = append(r.items, item)
}

func (r *reader) begin() *source.Fault {
	if len(r.items) > 0 {
		return r.from.Wrong()
	}
	r.from.Next()
	r.add(Item{Kind: Begin})
	return nil
}

func (r *reader) openGroup() *source.Fault {
	if r.groups == api.MaxGroups {
		return source.Tell(api.ErrGroup, r.from.Place())
	}
	r.from.Next()
	r.groups++
	r.open = append(r.open, r.groups)
	r.add(Item{Kind: Open, Group: r.groups})
	return nil
}

func (r *reader) closeGroup() *source.Fault {
	if len(r.open) == 0 {
		return source.Tell(api.ErrGroup, r.from.Place())
	}
	r.from.Next()
	last := len(r.open) - 1
	r.add(Item{Kind: Close, Group: r.open[last]})
	r.open = r.open[:last]
	return nil
}

func (r *reader) piece() *source.Fault {
	item, fault := r.single()
	if fault != nil {
		return fault
	}
	item.Times = r.times()
	r.add(item)
	return nil
}

// single reads a piece without what may stand behind it.
func (r *reader) single() (Item, *source.Fault) {
	switch r.from.Peek() {
	case '.':
		r.from.Next()
		return Item{Kind: Any}, nil
	case '[':
		r.from.Next()
		return r.set()
	}
	one, fault := r.character(notAPiece)
	if fault != nil {
		return Item{}, fault
	}
	return Item{Kind: OneOf, Spans: []Span{{From: one, To: one}}}, nil
}

// character reads a rune that stands for itself, or a `\` and the rune behind it.
func (r *reader) character(but string) (rune, *source.Fault) {
	if r.from.Take('\\') {
		return r.from.Escaped(escapable)
	}
	return r.from.Plain(but)
}

func (r *reader) times() Times {
	switch {
	case r.from.Take('*'):
		return AnyNumber
	case r.from.Take('+'):
		return OneOrMore
	case r.from.Take('?'):
		return OneOrNone
	}
	return Once
}

// set reads what stands behind a `[`, and the `]`.
func (r *reader) set() (Item, *source.Fault) {
	item := Item{Kind: OneOf}
	if r.from.Take('^') {
		item.Kind = NoneOf
	}
	for len(item.Spans) == 0 || r.from.Peek() != ']' {
		span, fault := r.member()
		if fault != nil {
			return Item{}, fault
		}
		item.Spans = append(item.Spans, span)
	}
	r.from.Next()
	return item, nil
}

func (r *reader) member() (Span, *source.Fault) {
	at := r.from.Place()
	first, fault := r.character(notAMember)
	if fault != nil {
		return Span{}, fault
	}
	if !r.from.Take('-') {
		return Span{From: first, To: first}, nil
	}
	last, fault := r.character(notAMember)
	if fault != nil {
		return Span{}, fault
	}
	if last < first {
		return Span{}, source.Tell(api.ErrRange, at)
	}
	return Span{From: first, To: last}, nil
}
