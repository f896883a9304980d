package adze_test

import (
	"strings"
	"testing"
	"unicode/utf8"

	"adze/adze"
	"adze/api"
)

func checkAnswer(t *testing.T, script string) {
	t.Helper()
	s, err, at := adze.Parse(script)
	if err == api.OK {
		if s == nil || at != 0 {
			t.Errorf("P1: Parse(%q) = %v, OK, %d", script, s, at)
		}
		return
	}
	if s != nil || err < api.ErrLong || err > api.ErrGroup || at < 0 || at > len(script) {
		t.Errorf("P1: Parse(%q) = %v, %d, %d", script, s, err, at)
	}
	if err == api.ErrForm {
		checkFormPlace(t, script, at)
	}
}

// checkFormPlace: what stands ahead of the place may stand there, and what stands behind the rune at the place is not looked at.
func checkFormPlace(t *testing.T, script string, at int) {
	t.Helper()
	_, err, ahead := adze.Parse(script[:at])
	if err != api.OK && err != api.ErrLabel && (err != api.ErrForm || ahead != at) {
		t.Errorf("P3: Parse(%q) tells ErrForm at %d, but up to there it tells %d at %d", script, at, err, ahead)
	}
	if at == len(script) {
		return
	}
	_, width := utf8.DecodeRuneInString(script[at:])
	for _, more := range []string{"", "/", "p", "\n", "]//", "/b/"} {
		cut := script[:at+width] + more
		if _, err, place := adze.Parse(cut); len(cut) <= api.MaxScript && (err != api.ErrForm || place != at) {
			t.Errorf("P3: Parse(%q) tells ErrForm at %d, but Parse(%q) %d at %d", script, at, cut, err, place)
		}
	}
}

func TestEveryShortScriptIsAnswered(t *testing.T) {
	parts := []string{"p", "s", "y", "a", "b", ":", "/", "\\", "[", "]", "(", ")", "^", "$", "-", "*", "{", "}", "1", "0", ",", "!", " ", "\n", ";", "é"}
	var grow func(script string, left int)
	grow = func(script string, left int) {
		checkAnswer(t, script)
		if left == 0 {
			return
		}
		for _, part := range parts {
			grow(script+part, left-1)
		}
	}
	grow("", 3)
	for _, start := range []string{"s/", "s/(a)/", "y/", "/[", "/a", ":a;b", "{1"} {
		grow(start, 3)
	}
}

func TestEveryBytePairIsAnswered(t *testing.T) {
	for _, start := range []string{"", "p", "a ", "s/", "s/a/", "y/", "/[", "/\\", ":", "b"} {
		for pair := range 1 << 16 {
			script := start + string([]byte{byte(pair >> 8), byte(pair)})
			s, err, _ := adze.Parse(script)
			if (err == api.OK) != (s != nil) || (err == api.ErrRune) == utf8.ValidString(script) {
				t.Fatalf("P1: Parse(%q) = %v, %d", script, s, err)
			}
		}
	}
}

func TestLongRowsAreAnswered(t *testing.T) {
	for _, part := range []string{"{", "}", "(", ")", "[", "s/", "/", "\\", "1", "1,", "!", "a ", "b", ":a", ";", "y/", "s/(", "/[a", "é", "p;", "{}", "\xff"} {
		for _, start := range []string{"", "s/", "/[", "y/", "a ", ":", "s/(a)/"} {
			for n := range 260 {
				s, err, at := adze.Parse(start + strings.Repeat(part, n))
				if (err == api.OK) != (s != nil) || at < 0 || at > api.MaxScript {
					t.Fatalf("P1: Parse(%q and %d times %q) = %v, %d, %d", start, n, part, s, err, at)
				}
			}
		}
	}
}

func FuzzParse(f *testing.F) {
	for _, script := range []string{"", "1!G;h;$!d", ":a;$!{N;b a};s/\\n/ /g", "s/([^a-c]*)\\.$/\\1&/2gp", "y/a\\n/bc/", "a é\n}", "/x/,9999!{", "\xff"} {
		f.Add(script)
	}
	f.Fuzz(func(t *testing.T, script string) { checkAnswer(t, script) })
}

func TestScriptsThatParseDidNotMake(t *testing.T) {
	var none *adze.Script
	for _, s := range []*adze.Script{none, {}, new(adze.Script)} {
		for _, input := range []string{"", "a\nb\n", "\xff", strings.Repeat("x", api.MaxInput+1)} {
			for _, quiet := range []bool{false, true} {
				if out, err := s.Edit(input, quiet); out != "" || err != api.ErrClosed {
					t.Errorf("P1: Edit(%q, %v) of what Parse did not make = %q, %d, want nothing, ErrClosed", input, quiet, out, err)
				}
			}
		}
	}
	broken, _, _ := adze.Parse("k")
	if out, err := broken.Edit("a", false); out != "" || err != api.ErrClosed {
		t.Errorf("P1: Edit of a script with a fault = %q, %d, want nothing, ErrClosed", out, err)
	}
}

func TestScriptsThatParseMadeAreNotClosed(t *testing.T) {
	for _, script := range []string{"", ";", "p", "{}"} {
		s, _, _ := adze.Parse(script)
		if _, err := s.Edit("a\n", false); err == api.ErrClosed {
			t.Errorf("P1: Edit by %q answers ErrClosed", script)
		}
	}
}

// checkEdit: what holds of Edit's answers whatever it is given.
func checkEdit(t *testing.T, s *adze.Script, script, input string) {
	t.Helper()
	for _, quiet := range []bool{false, true} {
		got := edit(s, input, quiet)
		switch {
		case (got.err == api.ErrLong) != (len(input) > api.MaxInput), len(input) <= api.MaxInput && (got.err == api.ErrRune) == utf8.ValidString(input):
			t.Errorf("P4: %q of %q: %d", script, input, got.err)
		case got.err == api.OK && (len(got.out) > api.MaxOutput || !utf8.ValidString(got.out) || got.out != "" && !strings.HasSuffix(got.out, "\n")):
			t.Errorf("P4: %q of %q: %q", script, input, got.out)
		case got.err != api.OK && got.out != "":
			t.Errorf("P1: %q of %q: %q beside %d", script, input, got.out, got.err)
		case got.err != api.OK && got.err != api.ErrLong && got.err != api.ErrRune && (got.err < api.ErrSpace || got.err > api.ErrOutput):
			t.Errorf("P4: %q of %q: %d", script, input, got.err)
		case edit(s, input, quiet) != got:
			t.Errorf("P2: %q of %q is answered otherwise once more", script, input)
		}
	}
}

func TestEveryRowOfCommandsIsAnswered(t *testing.T) {
	parts := []string{"=", "a x\n", "b", "c y\n", "d", "D", "g", "G", "h", "H", "i z\n", "n", "N", "p", "P", "q", "x", "t", "ba", "ta", ":a", "y/ab/ba/", "s/a*/\\n&/g", "s/(.)\\n?(.)/\\2\\1/p", "{", "}", "/a/!", "1,/b/", "$"}
	var grow func(script string, left int)
	grow = func(script string, left int) {
		if s, err, _ := adze.Parse(script); err == api.OK {
			for _, input := range []string{"", "ab\nb\n\na", "b\naa\nab\n"} {
				checkEdit(t, s, script, input)
			}
		}
		if left == 0 {
			return
		}
		for _, part := range parts {
			grow(script+part+";", left-1)
			grow(script+part, left-1)
		}
	}
	grow("", 2)
	grow("s/^/x\\n/;", 2)
	grow(":a;$!N;", 2)
}

func FuzzEdit(f *testing.F) {
	for _, script := range []string{"", "1!G;h;$!d", ":a;$!{N;b a};s/\\n/ /g", "s/([^a-c]*)(.)$/\\2&/2gp;t", "y/a\\n/bc/;P;D", "/x/,9999!{n;c é\n}"} {
		f.Add(script, "a\nx\n\nb")
	}
	f.Fuzz(func(t *testing.T, script, input string) {
		if s, err, _ := adze.Parse(script); err == api.OK {
			checkEdit(t, s, script, input)
		}
	})
}

type answer struct {
	out string
	err api.Errno
}

func edit(s *adze.Script, input string, quiet bool) answer {
	out, err := s.Edit(input, quiet)
	return answer{out, err}
}
