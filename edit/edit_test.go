package edit

import (
	"reflect"
	"slices"
	"testing"

	"adze/api"
	"adze/program"
)

func mustRead(t *testing.T, script string) *program.Program {
	t.Helper()
	p, fault := program.Read(script)
	if fault != nil {
		t.Fatalf("Read(%q): %+v", script, *fault)
	}
	return p
}

func TestSplit(t *testing.T) {
	for _, c := range []struct {
		input string
		lines []string
	}{
		{"", nil}, {"\n", []string{""}}, {"a", []string{"a"}}, {"a\n", []string{"a"}}, {"\na", []string{"", "a"}}, {"a\n\n", []string{"a", ""}}, {"a\r\nb", []string{"a\r", "b"}},
	} {
		if got := split(c.input); !slices.Equal(got, c.lines) {
			t.Errorf("split(%q) = %q, want %q", c.input, got, c.lines)
		}
	}
}

func TestProgramIsLeftAsItIs(t *testing.T) {
	for _, script := range []string{"/a/,/b/{p;y/ab/ba/}", "s/(a)/\\1x&/g;t", "a x\ni y\nh;G;D", "1,$!{N;b z};:z;x", "s/^/\\n/;P;D"} {
		p, fresh := mustRead(t, script), mustRead(t, script)
		for _, input := range []string{"", "a\nb\nc\n", "a\na", "\xff"} {
			Run(p, input, false)
			if !reflect.DeepEqual(p, fresh) {
				t.Fatalf("P2: %q is not what it was ahead of %q", script, input)
			}
		}
	}
}

func TestRunTells(t *testing.T) {
	p := mustRead(t, "2!p")
	if out, err := Run(p, "a\nb", false); out != "a\na\nb\n" || err != api.OK {
		t.Errorf("Run = %q, %d", out, err)
	}
	if out, err := Run(p, "a\nb", true); out != "a\n" || err != api.OK {
		t.Errorf("Run quietly = %q, %d", out, err)
	}
	if out, err := Run(p, "a\n\xff", false); out != "" || err != api.ErrRune {
		t.Errorf("Run = %q, %d, want ErrRune", out, err)
	}
}

func TestSpaceAndHoldShareNothing(t *testing.T) {
	e := &editor{space: []rune("x"), hold: []rune("ab")}
	for _, what := range "gGhHxGg" {
		e.do(&program.Command{What: what})
	}
	e.do(&program.Command{What: 'y', Exchange: program.Exchange{From: []rune("ab"), To: []rune("AB")}})
	if space, hold := string(e.space), string(e.hold); space != "AB\nAB" || hold != "ab\nab" {
		t.Errorf("space %q, hold %q", space, hold)
	}
}
