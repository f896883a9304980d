package pattern

import (
	"reflect"
	"strings"
	"testing"

	"adze/api"
	"adze/source"
)

func one(r rune) Item { return Item{Kind: OneOf, Spans: []Span{{r, r}}} }

func (i Item) with(times Times) Item {
	i.Times = times
	return i
}

func read(t *testing.T, text string) (Pattern, *source.Fault, *source.Cursor) {
	t.Helper()
	c, fault := source.New(text)
	if fault != nil {
		t.Fatalf("source.New(%q): %+v", text, *fault)
	}
	p, fault := Read(c)
	return p, fault, c
}

func TestItems(t *testing.T) {
	open := func(n int) Item { return Item{Kind: Open, Group: n} }
	shut := func(n int) Item { return Item{Kind: Close, Group: n} }
	for _, c := range []struct {
		text   string
		items  []Item
		groups int
	}{
		{"/", nil, 0},
		{"aé/", []Item{one('a'), one('é')}, 0},
		{"a*b+c?d/", []Item{one('a').with(AnyNumber), one('b').with(OneOrMore), one('c').with(OneOrNone), one('d')}, 0},
		{".*/", []Item{{Kind: Any, Times: AnyNumber}}, 0},
		{"^$/", []Item{{Kind: Begin}, {Kind: End}}, 0},
		{"$/", []Item{{Kind: End}}, 0},
		{"]-&;} {\t/", []Item{one(']'), one('-'), one('&'), one(';'), one('}'), one(' '), one('{'), one('\t')}, 0},
		{`\.\[\]\(\)\*\+\?\^\$\/\-\\\n/`, []Item{one('.'), one('['), one(']'), one('('), one(')'), one('*'), one('+'), one('?'), one('^'), one('$'), one('/'), one('-'), one('\\'), one('\n')}, 0},
		{`\**n/`, []Item{one('*').with(AnyNumber), one('n')}, 0},
		{"(a)(b(c))/", []Item{open(1), one('a'), shut(1), open(2), one('b'), open(3), one('c'), shut(3), shut(2)}, 3},
		{"()/", []Item{open(1), shut(1)}, 1},
		{"[ab-dé]+/", []Item{{Kind: OneOf, Spans: []Span{{'a', 'a'}, {'b', 'd'}, {'é', 'é'}}, Times: OneOrMore}}, 0},
		{`[^\]\n-\/.*+?$()&]/`, []Item{{Kind: NoneOf, Spans: []Span{{']', ']'}, {'\n', '/'}, {'.', '.'}, {'*', '*'}, {'+', '+'}, {'?', '?'}, {'$', '$'}, {'(', '('}, {')', ')'}, {'&', '&'}}}}, 0},
		{"[a-a]/", []Item{{Kind: OneOf, Spans: []Span{{'a', 'a'}}}}, 0},
		{`[\^]/`, []Item{{Kind: OneOf, Spans: []Span{{'^', '^'}}}}, 0},
	} {
		p, fault, cursor := read(t, c.text)
		if fault != nil {
			t.Errorf("Read(%q): %+v", c.text, *fault)
			continue
		}
		if !reflect.DeepEqual(p.Items, c.items) || p.Groups != c.groups {
			t.Errorf("Read(%q) = %+v", c.text, p)
		}
		if cursor.Peek() != source.End {
			t.Errorf("Read(%q) has left %q unread", c.text, cursor.Peek())
		}
	}
}

func TestReadsUpToTheSlash(t *testing.T) {
	if _, fault, cursor := read(t, `a\/[\/]/b/`); fault != nil || cursor.Place() != 8 {
		t.Errorf("stands at %d, fault %v, want 8", cursor.Place(), fault)
	}
}

func TestFaults(t *testing.T) {
	for _, c := range []struct {
		text string
		err  api.Errno
		at   int
	}{
		{"", api.ErrForm, 0}, {"é", api.ErrForm, 2}, {"a\n/", api.ErrForm, 1}, {`a\`, api.ErrForm, 2}, {`\` + "\n/", api.ErrForm, 1},
		{"*/", api.ErrForm, 0}, {"+/", api.ErrForm, 0}, {"?/", api.ErrForm, 0}, {"a*?/", api.ErrForm, 2}, {"(+)/", api.ErrForm, 1}, {"(a)?/", api.ErrForm, 3}, {"^*/", api.ErrForm, 1}, {"$*/", api.ErrForm, 1},
		{"^^/", api.ErrForm, 1}, {"(^a)/", api.ErrForm, 1}, {"a^/", api.ErrForm, 1}, {"($)/", api.ErrForm, 2}, {"a$(/", api.ErrForm, 2}, {"$", api.ErrForm, 1},
		{`\d/`, api.ErrForm, 1}, {`\é/`, api.ErrForm, 1}, {`\&/`, api.ErrForm, 1}, {`\1/`, api.ErrForm, 1},
		{"[", api.ErrForm, 1}, {"[^", api.ErrForm, 2}, {"[a", api.ErrForm, 2}, {"[a-", api.ErrForm, 3}, {`[\`, api.ErrForm, 2}, {`[a-\`, api.ErrForm, 4}, {"[a]", api.ErrForm, 3},
		{"[]/", api.ErrForm, 1}, {"[^]/", api.ErrForm, 2}, {"[^^]/", api.ErrForm, 2}, {"[[]/", api.ErrForm, 1}, {"[/]/", api.ErrForm, 1}, {"[-]/", api.ErrForm, 1}, {"[a-]/", api.ErrForm, 3}, {"[a--]/", api.ErrForm, 3}, {"[a-b-c]/", api.ErrForm, 4}, {"[a-^]/", api.ErrForm, 3}, {"[a-[]/", api.ErrForm, 3}, {"[a-/]/", api.ErrForm, 3}, {"[a-\n]/", api.ErrForm, 3}, {`[\q]/`, api.ErrForm, 2}, {`[a-\&]/`, api.ErrForm, 4},
		{"[b-a]/", api.ErrRange, 1}, {"[ab-a", api.ErrRange, 2}, {`[a\]-\[`, api.ErrRange, 2}, {"[^é-e]/", api.ErrRange, 2},
		{")/", api.ErrGroup, 0}, {"(a))/", api.ErrGroup, 3}, {"(/", api.ErrGroup, 0}, {"a(b/", api.ErrGroup, 0}, {"()()()()()()()()()(", api.ErrGroup, 18},
		{"(", api.ErrForm, 1}, {"((((((((((", api.ErrGroup, 9},
	} {
		p, fault, _ := read(t, c.text)
		if fault == nil || fault.Err != c.err || fault.At != c.at {
			t.Errorf("Read(%q): fault %v, want %d at %d", c.text, fault, c.err, c.at)
		}
		if p.Items != nil || p.Groups != 0 {
			t.Errorf("Read(%q): %+v beside a fault", c.text, p)
		}
	}
}

func TestMostItems(t *testing.T) {
	full := []string{
		strings.Repeat("a", 30), strings.Repeat("a*", 30), strings.Repeat("[a-z]+", 30),
		"^" + strings.Repeat(".", 28) + "$", strings.Repeat("()", 9) + strings.Repeat("a", 12),
	}
	for _, text := range full {
		if p, fault, _ := read(t, text+"/"); fault != nil || len(p.Items) != api.MaxItems {
			t.Errorf("Read(%q): %d items, fault %v", text, len(p.Items), fault)
		}
	}
	for _, text := range []string{strings.Repeat("a", 31), strings.Repeat("a?", 31), "^" + strings.Repeat("a", 30), strings.Repeat("a", 30) + "$", "(" + strings.Repeat("a", 29) + ")", "(" + strings.Repeat("a", 30)} {
		if _, fault, _ := read(t, text+"/"); fault == nil || fault.Err != api.ErrRange || fault.At != 0 {
			t.Errorf("Read(%q): fault %v, want ErrRange at 0", text, fault)
		}
		if _, fault, _ := read(t, text); fault == nil || fault.Err != api.ErrForm || fault.At != len(text) {
			t.Errorf("Read(%q) without its /: fault %v, want ErrForm at its length", text, fault)
		}
	}
}
