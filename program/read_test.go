package program

import (
	"reflect"
	"strings"
	"testing"

	"adze/api"
	"adze/pattern"
)

func commands(t *testing.T, script string) []Command {
	t.Helper()
	p, fault := Read(script)
	if fault != nil {
		t.Fatalf("Read(%q): %+v", script, *fault)
	}
	return p.Commands
}

func only(t *testing.T, script string) Command {
	t.Helper()
	all := commands(t, script)
	if len(all) != 1 {
		t.Fatalf("Read(%q): %d commands, want 1", script, len(all))
	}
	return all[0]
}

func runePattern(r rune) pattern.Pattern {
	return pattern.Pattern{Items: []pattern.Item{{Kind: pattern.OneOf, Spans: []pattern.Span{{From: r, To: r}}}}}
}

func TestOrderOfCommands(t *testing.T) {
	var got []rune
	for _, c := range commands(t, "=;d;D\t;g\n\nG;{h;;H}n;{{N}p}\nP;q;x") {
		got = append(got, c.What)
	}
	if want := "=dDgG{hHn{{NpPqx"; string(got) != want {
		t.Errorf("commands %q, want %q", string(got), want)
	}
}

func TestAddresses(t *testing.T) {
	one, last := Address{Kind: Number, Number: 1}, Address{Kind: Last}
	match := Address{Kind: Match, Pattern: runePattern('a')}
	for _, c := range []struct {
		script    string
		addresses []Address
		not       bool
	}{
		{"p", nil, false}, {"!p", nil, true}, {"! \tp", nil, true}, {"1p", []Address{one}, false}, {"$!p", []Address{last}, true},
		{"/a/p", []Address{match}, false}, {"0001 , $\t! p", []Address{one, last}, true}, {"/a/,/a/p", []Address{match, match}, false},
		{"9999,\t1p", []Address{{Kind: Number, Number: 9999}, one}, false},
	} {
		got := only(t, c.script)
		if got.What != 'p' || got.Not != c.not || !reflect.DeepEqual(got.Addresses, c.addresses) {
			t.Errorf("Read(%q) = %+v", c.script, got)
		}
	}
}

func TestTexts(t *testing.T) {
	for _, c := range []struct{ script, text string }{
		{"a", ""}, {"a\n", ""}, {"i ", ""}, {"c x", "x"}, {"a\tx\n", "x"}, {"i  x \t", " x \t"}, {"c }{;é/\\n#\r\n;", "}{;é/\\n#\r"},
	} {
		if got := only(t, c.script); got.Text != c.text || got.What != rune(c.script[0]) {
			t.Errorf("Read(%q) = %+v, want the text %q", c.script, got, c.text)
		}
	}
}

func TestGoals(t *testing.T) {
	got := commands(t, "b z;:a;{p;{t a};b\tz};t;:z;ba;b")
	want := []struct {
		what rune
		name string
		goal int
	}{{'b', "z", 8}, {':', "a", 0}, {'{', "", 7}, {'p', "", 0}, {'{', "", 6}, {'t', "a", 1}, {'b', "z", 8}, {'t', "", 11}, {':', "z", 0}, {'b', "a", 1}, {'b', "", 11}}
	if len(got) != len(want) {
		t.Fatalf("%d commands, want %d", len(got), len(want))
	}
	for i, w := range want {
		if c := got[i]; c.What != w.what || c.Name != w.name || c.Goal != w.goal {
			t.Errorf("command %d: %q %q to %d, want %q %q to %d", i, c.What, c.Name, c.Goal, w.what, w.name, w.goal)
		}
	}
}

func TestSubstitutions(t *testing.T) {
	lit := func(s string) Part { return Part{Kind: Literal, Text: s} }
	for _, c := range []struct {
		script string
		parts  []Part
		flags  Substitution
	}{
		{"s/a//", nil, Substitution{}},
		{"s/a/xé/g", []Part{lit("x"), lit("é")}, Substitution{All: true}},
		{`s/a/&\&\/\\\n/p`, []Part{{Kind: Whole}, lit("&"), lit("/"), lit("\\"), lit("\n")}, Substitution{Print: true}},
		{"s/a/;/12", []Part{lit(";")}, Substitution{Nth: 12}},
		{"s/a/}/p009g ", []Part{lit("}")}, Substitution{All: true, Print: true, Nth: 9}},
	} {
		got := only(t, c.script).Substitution
		if !reflect.DeepEqual(got.Pattern, runePattern('a')) || !reflect.DeepEqual(got.Replacement, c.parts) {
			t.Errorf("Read(%q) = %+v", c.script, got)
		}
		if got.All != c.flags.All || got.Print != c.flags.Print || got.Nth != c.flags.Nth {
			t.Errorf("Read(%q): flags %+v", c.script, got)
		}
	}
	got := only(t, `s/((.).)/\2\10/`).Substitution.Replacement
	if want := []Part{{Kind: Group, Group: 2}, {Kind: Group, Group: 1}, lit("0")}; !reflect.DeepEqual(got, want) {
		t.Errorf("groups: %+v, want %+v", got, want)
	}
}

func TestExchanges(t *testing.T) {
	for _, c := range []struct{ script, from, to string }{
		{"y///", "", ""}, {"y/abc/xyy/", "abc", "xyy"}, {`y/é\/\\\nn/.*[&;/`, "é/\\\nn", ".*[&;"},
	} {
		if got := only(t, c.script).Exchange; string(got.From) != c.from || string(got.To) != c.to {
			t.Errorf("Read(%q): %q to %q", c.script, string(got.From), string(got.To))
		}
	}
}

func TestLongNumbersDoNotWrapRound(t *testing.T) {
	for digits := 5; digits < 499; digits++ {
		if _, fault := Read("1" + strings.Repeat("0", digits-1) + "p"); fault == nil || fault.Err != api.ErrRange || fault.At != 0 {
			t.Errorf("a 1 and %d zeros: fault %v, want ErrRange at 0", digits-1, fault)
		}
	}
}
