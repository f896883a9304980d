package pattern

import (
	"slices"
	"strings"
	"testing"
	"time"
)

func mustRead(t *testing.T, text string) Pattern {
	t.Helper()
	p, fault, _ := read(t, text+"/")
	if fault != nil {
		t.Fatalf("Read(%q): %+v", text, *fault)
	}
	return p
}

// taken tells all matches, each with its groups, those of one match parted by `|`.
func taken(p Pattern, space string) []string {
	runes := []rune(space)
	var all []string
	for m := range p.Matches(runes) {
		var parts []string
		for _, s := range m[:p.Groups+1] {
			parts = append(parts, string(runes[s.From:s.To]))
		}
		all = append(all, strings.Join(parts, "|"))
	}
	return all
}

func TestWhatIsTaken(t *testing.T) {
	for _, c := range []struct {
		pattern, space string
		want           []string
	}{
		{"a", "banana", []string{"a", "a", "a"}}, {"an", "banana", []string{"an", "an"}}, {"ana", "banana", []string{"ana"}}, {"x", "banana", nil}, {"x", "", nil},
		{"", "", []string{""}}, {"", "ab", []string{"", "", ""}},
		{"a*", "baac", []string{"", "aa", ""}}, {"a*", "aab", []string{"aa", ""}}, {"a*", "baa", []string{"", "aa"}}, {"a+", "baaca", []string{"aa", "a"}}, {"a?", "baa", []string{"", "a", "a"}}, {"a?b", "aabb", []string{"ab", "b"}},
		{"^", "ab", []string{""}}, {"^a", "aa", []string{"a"}}, {"^a*", "aab", []string{"aa"}}, {"$", "ab", []string{""}}, {"a$", "aba", []string{"a"}}, {"^$", "", []string{""}}, {"^$", "a", nil}, {"^.$", "a", []string{"a"}}, {"a*$", "baa", []string{"aa"}}, {"^a", "ba", nil}, {"a$", "ab", nil},
		{"^b", "a\nb", nil}, {"a$", "a\nb", nil}, {"a.b", "a\nb", []string{"a\nb"}}, {"\\n", "a\nb\n", []string{"\n", "\n"}}, {"[^a]", "a\nb", []string{"\n", "b"}},
		{".", "aé€😀", []string{"a", "é", "€", "😀"}}, {"[é-€]+", "aé€😀", []string{"é€"}}, {"[^é-€]", "aé€😀", []string{"a", "😀"}}, {"[a-cx]+", "abcdxa", []string{"abc", "xa"}}, {"[b-b]", "abc", []string{"b"}}, {"[\\]\\-]", "a]-", []string{"]", "-"}}, {"\\.", "a.", []string{"."}}, {"[.*]", "a.*", []string{".", "*"}},
		{"a.*b", "aabab-b-", []string{"aabab-b"}}, {"a.+b", "abab", []string{"abab"}}, {"a.?c", "acabc", []string{"ac", "abc"}}, {"a.?c", "abbc", nil},
		{"(a*)(a+)(a?)", "aaa", []string{"aaa|aa|a|"}}, {"(a?)(a?)(a)", "aa", []string{"aa|a||a"}}, {"(a*)(a*)", "aa", []string{"aa|aa|"}}, {"(.)(.)", "abcde", []string{"ab|a|b", "cd|c|d"}},
		{"((a)b)", "xab", []string{"ab|ab|a"}}, {"(a(b(c)))(d)", "abcd", []string{"abcd|abc|bc|c|d"}}, {"()a()", "a", []string{"a||"}}, {"(.*)b(.*)b", "abcbdb", []string{"abcbdb|abc|d"}}, {"(.+)-(.+)-", "a-b-c-d", []string{"a-b-c-|a-b|c"}}, {"(a*)ab", "aaab", []string{"aaab|aa"}}, {"(a?)(ab?)", "ab", []string{"ab||ab"}},
		{"(((((((((a)))))))))", "a", []string{"a|a|a|a|a|a|a|a|a|a"}},
	} {
		p := mustRead(t, c.pattern)
		if got := taken(p, c.space); !slices.Equal(got, c.want) {
			t.Errorf("%q takes %q of %q, want %q", c.pattern, got, c.space, c.want)
		}
		if got := p.Has([]rune(c.space)); got != (c.want != nil) {
			t.Errorf("%q has a match in %q: %v", c.pattern, c.space, got)
		}
	}
}

// tryFrom looks for a match as the document says it, piece by piece, and tells the ends of the items.
func tryFrom(items []Item, space []rune, at int) ([]int, bool) {
	if len(items) == 0 {
		return nil, true
	}
	least, most := 0, 0
	switch i := items[0]; {
	case i.Kind == Begin && at > 0 || i.Kind == End && at < len(space):
		return nil, false
	case i.Kind >= Any:
		least, most = bounds(i.Times)
	}
	count := 0
	for count < most && at+count < len(space) && wanted(items[0], space[at+count]) {
		count++
	}
	for ; count >= least; count-- {
		if ends, ok := tryFrom(items[1:], space, at+count); ok {
			return append([]int{at + count}, ends...), true
		}
	}
	return nil, false
}

func bounds(times Times) (int, int) {
	return []int{Once: 1, AnyNumber: 0, OneOrMore: 1, OneOrNone: 0}[times], []int{Once: 1, AnyNumber: 99, OneOrMore: 99, OneOrNone: 1}[times]
}

func wanted(i Item, r rune) bool {
	for _, s := range i.Spans {
		if s.From <= r && r <= s.To {
			return i.Kind == OneOf
		}
	}
	return i.Kind != OneOf
}

// triedMatches goes from place to place as the document says it.
func triedMatches(p Pattern, space []rune) []Stretch {
	var all []Stretch
	ended := -1
	for at := 0; at <= len(space); at++ {
		ends, ok := tryFrom(p.Items, space, at)
		if !ok {
			continue
		}
		end := at
		if len(ends) > 0 {
			end = ends[len(ends)-1]
		}
		if end == at && at == ended {
			continue
		}
		all = append(all, Stretch{at, end})
		ended = end
		at = end - 1
	}
	return all
}

func eachRow(parts []string, most int, do func(string)) {
	rows := []string{""}
	for range most + 1 {
		var longer []string
		for _, row := range rows {
			do(row)
			for _, part := range parts {
				longer = append(longer, row+part)
			}
		}
		rows = longer
	}
}

func TestAllShortPatterns(t *testing.T) {
	var spaces [][]rune
	eachRow([]string{"a", "b"}, 4, func(space string) { spaces = append(spaces, []rune(space)) })
	check := func(text string) {
		p := mustRead(t, text)
		for _, space := range spaces {
			var got []Stretch
			for m := range p.Matches(space) {
				got = append(got, m[0])
			}
			if want := triedMatches(p, space); !slices.Equal(got, want) {
				t.Fatalf("%q in %q: %v, want %v", text, string(space), got, want)
			}
		}
	}
	eachRow([]string{"a", "a*", "a?", "b+", ".", ".*", "[^a]?"}, 4, func(text string) {
		check(text)
		if len(text) < 6 {
			check("^" + text)
			check(text + "$")
			check("^" + text + "$")
		}
	})
}

func TestAllShortGroups(t *testing.T) {
	eachRow([]string{"a*", "a?", "b+", "."}, 4, func(text string) {
		for first := range len(text) + 1 {
			p, fault, _ := read(t, text[:first]+"("+text[first:]+")/")
			if fault != nil {
				continue // the `(` has parted a piece from what stands behind it
			}
			open := slices.IndexFunc(p.Items, func(i Item) bool { return i.Kind == Open })
			for _, space := range []string{"aabb", "abab", "baaa", "abba", "aaaa"} {
				checkLastGroup(t, p, []rune(space), open)
			}
		}
	})
}

// checkLastGroup looks at a group that goes from an item to the pattern's end.
func checkLastGroup(t *testing.T, p Pattern, space []rune, open int) {
	t.Helper()
	for m := range p.Matches(space) {
		ends, ok := tryFrom(p.Items, space, m[0].From)
		want := Stretch{}
		if ok {
			want = Stretch{ends[open], ends[len(ends)-1]}
		}
		if m[1] != want {
			t.Fatalf("%+v in %q: the group is %v, want %v", p, string(space), m[1], want)
		}
	}
}

func TestMatchesMayBeLeft(t *testing.T) {
	p := mustRead(t, "a*")
	for most := 1; most < 4; most++ {
		count := 0
		for range p.Matches([]rune("baac")) {
			if count++; count == most {
				break
			}
		}
		if count != most {
			t.Errorf("left behind %d matches, want %d", count, most)
		}
	}
}

// inTime fails instead of going on for ages where steps are not bounded.
func inTime(t *testing.T, what string, do func()) {
	t.Helper()
	done := make(chan bool)
	go func() {
		do()
		close(done)
	}()
	select {
	case <-done:
	case <-time.After(30 * time.Second):
		t.Fatalf("P1: %s takes too many steps", what)
	}
}

// stubborn makes patterns of a number of items that have many ways to fail, or to match, in a space of `a` alone.
func stubborn(items int) []string {
	row := func(part string, n int) string { return strings.Repeat(part, max(n, 0)) }
	return []string{
		row("a*", items-1) + "b", row("a+", items-1) + "b", row("a?", items-1) + "b", row(".*", items-1) + "$", row(".*", items-2) + "b$", "^" + row("[^b]*", items-2) + "b",
		row("(.*)", min(items/3, 9)) + row("a*", items-3*min(items/3, 9)-1) + "b", row("a*[ab]*", (items-1)/2) + "c", row("a?", items/2) + row("a", items-items/2), row("a+a?", (items-1)/2) + "$",
		row("a*", items), row("a?", items), row(".", items), row("b*", items), row("a+", items-1) + "b?",
	}
}

// TestStepsAreBounded counts: three steps for each item and each place are enough for all matches of a space, whatever is looked for; P1 allows some for each number of runes, too.
func TestStepsAreBounded(t *testing.T) {
	for _, items := range []int{1, 2, 3, 5, 8, 15, 29, 30} {
		for _, text := range stubborn(items) {
			p := mustRead(t, text)
			for _, runes := range []int{0, 1, 2, 10, 50, 100, 200, 400} {
				checkSteps(t, text, p, []rune(strings.Repeat("a", runes)))
			}
		}
	}
}

func checkSteps(t *testing.T, text string, p Pattern, space []rune) {
	t.Helper()
	first, all := 0, 0
	inTime(t, text, func() {
		s := p.lookIn(space)
		s.firstFrom(0)
		first = s.steps
		s = p.lookIn(space)
		s.eachMatch(func(Match) bool { return true })
		all = s.steps
	})
	most := 3 * (len(p.Items) + 1) * (len(space) + 1)
	if first < len(p.Items) || all < first || all > most {
		t.Fatalf("P1: %q in %d runes: %d steps to the first match, %d to all, want %d at most", text, len(space), first, all, most)
	}
}

func TestStubbornPatterns(t *testing.T) {
	space := []rune(strings.Repeat("a", 400))
	for _, c := range []struct {
		pattern string
		matches int
		first   Stretch
	}{
		{strings.Repeat("a*", 29) + "b", 0, Stretch{}}, {strings.Repeat("a?", 29) + "b", 0, Stretch{}}, {strings.Repeat(".*", 28) + "b$", 0, Stretch{}}, {"^" + strings.Repeat("[^b]+", 28) + "b", 0, Stretch{}},
		{strings.Repeat("a*", 30), 1, Stretch{0, 400}}, {strings.Repeat("a?", 15) + strings.Repeat("a", 15), 13, Stretch{0, 30}}, {strings.Repeat("a+", 28) + "$", 1, Stretch{0, 400}}, {strings.Repeat("b*", 30), 401, Stretch{0, 0}}, {strings.Repeat("(.*)", 9) + "aa", 1, Stretch{0, 400}},
	} {
		p := mustRead(t, c.pattern)
		var all []Stretch
		has := false
		inTime(t, c.pattern, func() {
			has = p.Has(space)
			for m := range p.Matches(space) {
				all = append(all, m[0])
			}
		})
		if len(all) != c.matches || c.matches > 0 && all[0] != c.first || has != (c.matches > 0) {
			t.Errorf("P4: %q: %d matches, the first %v, want %d, the first %v", c.pattern, len(all), all[:min(1, len(all))], c.matches, c.first)
		}
	}
}
