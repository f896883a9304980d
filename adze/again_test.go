package adze_test

import (
	"slices"
	"strings"
	"sync"
	"testing"

	"adze/adze"
	"adze/api"
)

// run is a text, and what is answered of it whatever was edited ahead.
type run struct {
	input string
	quiet bool
	want  answer
}

func says(input, out string) run { return run{input, false, answer{out, api.OK}} }

func saysQuietly(input, out string) run { return run{input, true, answer{out, api.OK}} }

func fails(input string, err api.Errno) run { return run{input, false, answer{"", err}} }

func failsQuietly(input string, err api.Errno) run { return run{input, true, answer{"", err}} }

// used is a script, and runs each of which leaves something behind, or shows it if another has.
type used struct {
	script string
	runs   []run
}

func usedScripts() []used {
	return []used{
		// A command is left open.
		{"/a/,/b/s/^/>/", []run{says("a\nx", ">a\n>x\n"), says("x\nb", "x\nb\n"), says("x\na\nb\nx", "x\n>a\n>b\nx\n"), saysQuietly("a", ""), fails("a\n"+as(401), api.ErrSpace), says("", "")}},
		{"/a/,/b/!d", []run{says("a\nx", "a\nx\n"), says("x\nb", ""), says("b\na", "a\n"), saysQuietly("a", "")}},
		{"2,4d", []run{says("1\n2\n3", "1\n"), says("1\n2\n3\n4\n5", "1\n5\n"), says("x", "x\n"), says("", "")}},
		{"/a/,9{=;q}", []run{says("a\nb", "1\na\n"), says("b\na\nc", "b\n2\na\n"), says("b", "b\n"), saysQuietly("a\nb", "1\n")}},
		{"1,/b/{/a/,/x/p}", []run{saysQuietly("a\nc", "a\nc\n"), saysQuietly("c\nb\na", ""), saysQuietly("c\nc\na\nb\nc", "a\nb\n"), says("c", "c\n")}},
		{"$!{/a/,/b/d}", []run{says("a\nx", "x\n"), says("x\nx", "x\nx\n"), says("a\nb\nx", "x\n")}},
		{"/a/,/b/{p;/c/{:l;p;bl}}", []run{saysQuietly("a\nx", "a\nx\n"), failsQuietly("a\n"+as(99)+"c", api.ErrOutput), failsQuietly("a\nc", api.ErrSteps), saysQuietly("c\nx", "")}},
		// A hold is filled.
		{"x", []run{says("a\nb", "\na\n"), says("c", "\n"), saysQuietly("d", ""), fails(as(401), api.ErrSpace), fails("a\xff", api.ErrRune)}},
		{"G;h", []run{says("a\nb", "a\n\nb\na\n\n"), says("c", "c\n\n"), saysQuietly("d\ne", ""), fails(as(200)+"\n"+as(200), api.ErrSpace)}},
		{"H;$!d;x", []run{says("a\nb", "\na\nb\n"), says("c", "\nc\n"), fails(as(200)+"\n"+as(200), api.ErrSpace), says(as(399), "\n"+as(399)+"\n"), saysQuietly(as(300), "")}},
		{"/a/{h;q};g", []run{says("a\nb", "a\n"), says("b", "\n"), says("b\na", "\na\n"), saysQuietly("a", "")}},
		{"1!G;h;$!d", []run{says("a\nb\nc", "c\nb\na\n"), says("d", "d\n"), says("", ""), fails(empties(1000)+"x", api.ErrSpace)}},
		{"h;y/ab/ba/;G", []run{says("ab", "ba\nab\n"), says("b", "a\nb\n"), fails(as(200), api.ErrSpace)}},
		// A text is left in the queue.
		{"a t\n/x/{:l;bl}", []run{says("y", "y\nt\n"), fails("x", api.ErrSteps), fails("y\nx", api.ErrSteps), saysQuietly("y", "t\n"), says("", "")}},
		{"a t\na u\ns/x/" + as(20) + "/g", []run{says("y", "y\nt\nu\n"), fails("x"+as(390), api.ErrSpace), failsQuietly(strings.Repeat("x", 21), api.ErrSpace), saysQuietly("y", "t\nu\n")}},
		// Lines are left, or the number of one.
		{"=;q", []run{says("a\nb\nc", "1\na\n"), says("d", "1\nd\n"), saysQuietly("e\nf", "1\n"), says("", "")}},
		{"$=;N", []run{says("a\nb\nc", "a\nb\n3\nc\n"), says("d", "1\nd\n"), saysQuietly("e\nf\ng\nh", ""), says("", "")}},
		{"2q;$s/$/!/", []run{says("a\nb\nc", "a\nb\n"), says("d", "d!\n"), saysQuietly("e\nf", "")}},
		{"n;d", []run{says("a\nb\nc", "a\nc\n"), says("a", "a\n"), says("a\nb", "a\n"), saysQuietly("a\nb", "")}},
		// An `s` has replaced.
		{"s/a/b/;/c/q;t;s/$/!/", []run{says("a", "b\n"), says("x", "x!\n"), says("ac", "bc\n"), says("x\na", "x!\nb\n")}},
		{":l;s/a/b/;/e/q;tl;s/$/!/", []run{says("aa", "bb!\n"), says("ae", "be\n"), says("x", "x!\n")}},
		// What is counted is nearly used up, or passed.
		{"h;h;h", []run{says(empties(1666), empties(1666)), fails(empties(1667), api.ErrSteps), saysQuietly(empties(1600), ""), says("a", "a\n")}},
		{":l;/x/bl;p", []run{says("a", "a\na\n"), fails("x", api.ErrSteps), failsQuietly("a\nx", api.ErrSteps), saysQuietly("a", "a\n")}},
		{pees(19), []run{says(as(399), strings.Repeat(as(399)+"\n", 20)), fails(as(400), api.ErrOutput), saysQuietly(as(400), strings.Repeat(as(400)+"\n", 19)), says("", "")}},
		{"", []run{says("a\nb", "a\nb\n"), fails(as(3001), api.ErrLong), fails("\xff", api.ErrRune), fails("a\n"+as(401), api.ErrSpace), saysQuietly("a", ""), failsQuietly(as(401), api.ErrSpace)}},
	}
}

func checkRun(t *testing.T, s *adze.Script, script string, r run) {
	t.Helper()
	if got := edit(s, r.input, r.quiet); got != r.want {
		t.Errorf("P2: %q of %q, quiet %v: %v, want %v", script, r.input, r.quiet, got, r.want)
	}
}

func TestNewScripts(t *testing.T) {
	for _, u := range usedScripts() {
		for _, r := range u.runs {
			checkRun(t, parsed(t, u.script), u.script, r)
		}
	}
}

func TestUsedScripts(t *testing.T) {
	for _, u := range usedScripts() {
		for _, ahead := range u.runs {
			for _, behind := range u.runs {
				s := parsed(t, u.script)
				for _, r := range []run{ahead, behind, behind, ahead} {
					checkRun(t, s, u.script, r)
				}
			}
		}
	}
}

// One Script is used for ever so many texts: what is left by each, be it little, would add up.
func TestScriptsUsedOften(t *testing.T) {
	for _, u := range usedScripts() {
		s := parsed(t, u.script)
		for range 30 {
			for _, r := range u.runs {
				checkRun(t, s, u.script, r)
			}
		}
	}
}

// Several Scripts in turns, two of each text, with others parsed between.
func TestScriptsInTurns(t *testing.T) {
	all := usedScripts()
	var scripts []*adze.Script
	for _, u := range slices.Concat(all, all) {
		scripts = append(scripts, parsed(t, u.script))
	}
	for turn := range 12 {
		for i, s := range scripts {
			u := all[i%len(all)]
			checkRun(t, s, u.script, u.runs[(turn+i/len(all))%len(u.runs)])
			adze.Parse([]string{":l;bl", "k", "b l", "/a/,/b/h", "s/(a/b/"}[(turn+i)%5])
		}
	}
}

func TestEditKeepsNothing(t *testing.T) {
	inputs := []string{"", "a", "a\nb\nc\n", "b\nb", "c\n\na\n", "\xff", strings.Repeat("x\n", 1400), strings.Repeat("y", 401), "b\n" + strings.Repeat("a", 401)}
	for _, script := range []string{"", "p", "=", "2,$p", "/a/,/c/d", "/b/,/x/s/^/>/", "1,3s/$/!/", "H;$!d;x", "x;G", "G;h", "a more", "a more\n/b/{n;q}", "q;a more", "/a/{h;q};G", "t;s/a/b/", "s/a/b/;t;s/b/c/", "/b/,9999{=;n}", ":a;b a", "y/ab/ba/;h;y/a/c/;G", "/b/,/c/{p;p;p;p}"} {
		used, _, _ := adze.Parse(script)
		for range 2 {
			for _, input := range inputs {
				for _, quiet := range []bool{false, true} {
					fresh, _, _ := adze.Parse(script)
					if got, want := edit(used, input, quiet), edit(fresh, input, quiet); got != want {
						t.Errorf("P2: Edit(%q, %v) by a used %q = %v, by a fresh one %v", input, quiet, script, got, want)
					}
				}
			}
		}
	}
}

func TestEditsAtTheSameTime(t *testing.T) {
	s, _, _ := adze.Parse("/a/,/c/{H;x};$!d")
	want := edit(s, "a\nb\nc\na\n", false)
	var group sync.WaitGroup
	for i := range 16 {
		group.Go(func() {
			edit(s, strings.Repeat("a\n", i), true)
			if got := edit(s, "a\nb\nc\na\n", false); got != want {
				t.Errorf("P2: beside others %v, alone %v", got, want)
			}
		})
	}
	group.Wait()
}
