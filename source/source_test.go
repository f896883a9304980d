package source

import (
	"testing"

	"adze/api"
)

func TestCursorGoesByRunesAndTellsBytes(t *testing.T) {
	c, fault := New("aé\uFFFD€😀z")
	if fault != nil {
		t.Fatalf("New: %+v", *fault)
	}
	want := []struct {
		r  rune
		at int
	}{{'a', 0}, {'é', 1}, {'\uFFFD', 3}, {'€', 6}, {'😀', 9}, {'z', 13}, {End, 14}, {End, 14}}
	for _, w := range want {
		if at := c.Place(); at != w.at {
			t.Errorf("Place ahead of %q = %d, want %d", w.r, at, w.at)
		}
		if r := c.Peek(); r != w.r {
			t.Errorf("Peek = %q, want %q", r, w.r)
		}
		if r := c.Next(); r != w.r {
			t.Errorf("Next = %q, want %q", r, w.r)
		}
	}
}

func TestBadBytes(t *testing.T) {
	for _, c := range []struct {
		text string
		at   int
	}{
		{"\xff", 0}, {"ab\x80", 2}, {"é\xc3", 2}, {"\xc3a", 0}, {"\xe2\x82", 0}, {"€\xe2\x82z", 3},
		{"\xc0\x80", 0}, {"x\xe0\x80\x80", 1}, {"\xed\xa0\x80", 0}, {"\xed\xbf\xbf", 0}, {"\xf4\x90\x80\x80", 0},
		{"\xf0\x9f\x98", 0}, {"\uFFFD\xff", 3}, {"\xef\xbf", 0}, {"a\xffb\xff", 1},
	} {
		got, fault := New(c.text)
		if got != nil || fault == nil || fault.Err != api.ErrRune || fault.At != c.at {
			t.Errorf("New(%q) = %v, want ErrRune at %d", c.text, fault, c.at)
		}
	}
}

func TestTakeAndBlanks(t *testing.T) {
	c, _ := New(" \t\n \rx")
	c.Blanks()
	if c.Place() != 2 || c.Take(' ') || !c.Take(LineEnd) {
		t.Errorf("blanks are 32 and 9 alone: at %d", c.Place())
	}
	c.Blanks()
	if c.Peek() != '\r' {
		t.Errorf("Peek = %q, want the rune 13, which is no blank", c.Peek())
	}
	if fault := c.Wrong(); fault.Err != api.ErrForm || fault.At != 4 {
		t.Errorf("Wrong = %+v, want ErrForm at 4", *fault)
	}
}

func TestLine(t *testing.T) {
	for _, c := range []struct {
		text, line string
		at         int
	}{{"", "", 0}, {"\nx", "", 0}, {"é;}\nx", "é;}", 4}, {"all ", "all ", 4}} {
		cursor, _ := New(c.text)
		if line := cursor.Line(); line != c.line || cursor.Place() != c.at {
			t.Errorf("Line of %q = %q up to %d, want %q up to %d", c.text, line, cursor.Place(), c.line, c.at)
		}
	}
}

func TestEscapedAndPlain(t *testing.T) {
	for _, c := range []struct {
		text    string
		escaped bool
		r       rune
		fine    bool
	}{
		{"n", true, '\n', true}, {"/", true, '/', true}, {"q", true, 0, false}, {"", true, 0, false}, {"\n", true, 0, false}, {"\uFFFD", true, 0, false},
		{"n", false, 'n', true}, {"/", false, 0, false}, {"q", false, 'q', true}, {"", false, 0, false}, {"\n", false, 0, false}, {"\uFFFD", false, '\uFFFD', true},
	} {
		cursor, _ := New(c.text)
		read := cursor.Plain
		if c.escaped {
			read = cursor.Escaped
		}
		r, fault := read("/&")
		if r != c.r || (fault == nil) != c.fine {
			t.Errorf("%q, behind a \\: %v: %q, %v", c.text, c.escaped, r, fault)
		}
		if fault != nil && (fault.Err != api.ErrForm || fault.At != 0) {
			t.Errorf("%q: fault %+v, want ErrForm at 0", c.text, *fault)
		}
	}
}
