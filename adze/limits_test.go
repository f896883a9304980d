package adze_test

import (
	"strings"
	"testing"

	"adze/api"
)

// refused is an error that Edit answers, be it quiet or not.
type refused struct {
	script, input string
	err           api.Errno
}

func checkRefused(t *testing.T, rows []refused) {
	t.Helper()
	for _, c := range rows {
		for _, quiet := range []bool{false, true} {
			if got := edit(parsed(t, c.script), c.input, quiet); got != (answer{"", c.err}) {
				t.Errorf("P4: %q of %d bytes, quiet %v: %d bytes, %d, want none, %d", c.script, len(c.input), quiet, len(got.out), got.err, c.err)
			}
		}
	}
}

// allowed is what just keeps within the limits: OK is what is to be seen of it.
type allowed struct{ script, input string }

func checkAllowed(t *testing.T, rows []allowed) {
	t.Helper()
	for _, c := range rows {
		for _, quiet := range []bool{false, true} {
			if got := edit(parsed(t, c.script), c.input, quiet); got.err != api.OK {
				t.Errorf("P4: %q of %d bytes, quiet %v: %d, want OK", c.script, len(c.input), quiet, got.err)
			}
		}
	}
}

func as(n int) string { return strings.Repeat("a", n) }

func empties(n int) string { return strings.Repeat("\n", n) }

// checkCopied: with no command all lines are put out as they came in.
func checkCopied(t *testing.T, inputs []string) {
	t.Helper()
	for _, input := range inputs {
		if got := edit(parsed(t, ""), input, false); got != (answer{strings.TrimSuffix(input, "\n") + "\n", api.OK}) {
			t.Errorf("P4: %d bytes: %d bytes, %d, want the same", len(input), len(got.out), got.err)
		}
	}
}

func TestLongInput(t *testing.T) {
	checkCopied(t, []string{empties(2999), empties(3000), empties(2999) + "a", strings.Repeat("é\n", 1000), strings.Repeat(as(99)+"\n", 30), strings.Repeat(strings.Repeat("é", 124)+"a\n", 12)})
	checkAllowed(t, []allowed{{"", strings.Repeat("aa\n", 1000)}, {"", empties(3000)}, {"q", as(400) + "\n" + as(2599)}})
	for _, input := range []string{empties(3001), empties(3000) + "a", as(3001), strings.Repeat("é\n", 1000) + "\n", strings.Repeat("é\n", 1001), strings.Repeat("\xff", 3001), empties(3000) + "\xff", "\xff" + empties(3000), as(1000000)} {
		for _, script := range []string{"", "d", "q", ":a;ba", pees(40)} {
			checkRefused(t, []refused{{script, input, api.ErrLong}})
		}
	}
}

func TestBadInput(t *testing.T) {
	checkAllowed(t, []allowed{{"", "\uFFFD"}, {"p", "\x00\x7f"}, {"s/./\uFFFD/", "a\n\U0010FFFF\n"}, {"", "\ud7ff\ue000"}})
	for _, bad := range []string{"\xff", "\x80", "\xc3", "\xc3\n", "\xc3\n\xa9", "\xe2\x82", "\xc0\xaf", "\xc1\xbf", "\xe0\x80\xaf", "\xed\xa0\x80", "\xed\xbf\xbf", "\xf4\x90\x80\x80", "\xf0\x9f\x98", "\uFFFD\xef\xbf"} {
		for _, input := range []string{
			bad, bad + "a\nb\n", bad + "\n", "\n" + bad, "a" + bad + "b\n", "a\n" + bad + "\nb", "é" + bad + "é", "a\nb" + bad, "a\nb\n" + bad, "a\nb" + bad + "\n",
			as(401) + bad, bad + as(401), bad + empties(3000-len(bad)), empties(1500) + bad + empties(1500-len(bad)), empties(3000-len(bad)) + bad,
		} {
			for _, script := range []string{"", "d", "q", ":a;ba", pees(40)} {
				checkRefused(t, []refused{{script, input, api.ErrRune}})
			}
		}
	}
}

func TestLongSpace(t *testing.T) {
	for _, script := range []string{"", "p", "d", "q", "!p", "{}", "9!{p}", ":a", "b", "$!N;P;D", "x;x", "s/x/y/", "c", "a", "h;g"} {
		checkAllowed(t, []allowed{{script, as(400)}, {script, as(400) + "\n"}, {script, strings.Repeat("é", 400)}})
		checkRefused(t, []refused{{script, as(401), api.ErrSpace}, {script, as(401) + "\n", api.ErrSpace}, {script, strings.Repeat("é", 401), api.ErrSpace}})
	}
	// A line that is not read is not come to.
	checkAllowed(t, []allowed{{"q", "a\n" + as(401)}, {"2q", "a\nb\n" + as(2000)}})
	checkRefused(t, []refused{{"2q", "a\n" + as(401), api.ErrSpace}, {"n", "a\n" + as(401), api.ErrSpace}, {"N", "\n" + as(400), api.ErrSpace}})
}

func TestSpaceThatGrows(t *testing.T) {
	for _, c := range []struct {
		script string
		fits   int // the longest line that it may be given
	}{
		{"s/$/x/", 399}, {"s/$/x/p", 399}, {"s/$/x/;s/x$//", 399}, {"s/^/éé/", 398}, {"s/a/aa/g", 200}, {"s/^.*$/&&/", 200}, {"s/(.*)/\\1&\\1/", 133}, {"G", 399}, {"h;G", 199}, {"/^a/G;D", 399}, {"/^a/s/^/x\\nb/;D", 397}, {"s/$/x/;d", 399}, {"s/$/x/;q", 399}, {"{s/$/x/}", 399}, {"s/$/x/;t", 399},
		{"h", 400}, {"H", 399}, {"H;d", 399}, {"H;g", 399}, {"H;x;s/.//", 399}, {"h;H", 199}, {"h;H;h", 199}, {"H;q", 399}, {"H;c x", 399}, {"H;9!p", 399},
	} {
		checkAllowed(t, []allowed{{c.script, as(c.fits)}})
		checkRefused(t, []refused{{c.script, as(c.fits + 1), api.ErrSpace}})
	}
}

func TestSpaceIsInRunes(t *testing.T) {
	for _, r := range []string{"a", "é", "€", "😀"} {
		for _, c := range []struct {
			script string
			fits   int
		}{
			{"", 400}, {"h", 400}, {"d", 400}, {"G", 399}, {"h;G", 199}, {"H", 399}, {"h;H", 199}, {"s/$/€/", 399}, {"H;x", 399}, {"y/aé€😀/éa😀€/", 400},
		} {
			checkAllowed(t, []allowed{{c.script, strings.Repeat(r, c.fits)}})
			checkRefused(t, []refused{{c.script, strings.Repeat(r, c.fits+1), api.ErrSpace}})
		}
	}
}

// Each command looks at the space and the hold ahead of what it does, also one that is not meant.
func TestEveryCommandLooksAtTheSpace(t *testing.T) {
	for _, command := range []string{"=", "a x", "b", "c x", "d", "D", "g", "h", "i x", "n", "N", "p", "P", "q", "x", "s/a*//", "s/q//", "t", "y/a/b/", ":l", "{}", "{d}", "!d", "9d", "9{d}", "9!d", "$d", "/q/d", "/a/d", "1,9d", "2,9d", "g;d", "x;d", "s/a//;d"} {
		// The space is too long; the space has grown; the hold has.
		checkAllowed(t, []allowed{{command, as(400)}, {"s/$/x/;" + command, as(399)}, {"H;" + command, as(399)}})
		checkRefused(t, []refused{{command, as(401), api.ErrSpace}, {"s/$/x/;" + command, as(400), api.ErrSpace}, {"H;" + command, as(400), api.ErrSpace}})
		// On the second line, at which the hold has grown by both.
		checkAllowed(t, []allowed{{"H;" + command, "b\n" + as(397)}})
		checkRefused(t, []refused{{"H;$!d;" + command, "b\n" + as(398), api.ErrSpace}})
	}
}

func TestSpaceAtTheCyclesEnd(t *testing.T) {
	for _, c := range []struct {
		script, fits, passes string
	}{
		{"", as(400), as(401)}, {"", "a\n" + as(400), "a\n" + as(401)}, {"s/$/x/", as(399), as(400)}, {"2s/$/x/", as(400) + "\n" + as(399), "a\n" + as(400)}, {"{s/$/x/}", as(399), as(400)}, {"{{s/$/x/}}", as(399), as(400)}, {"G", as(399), as(400)}, {"H", as(399), as(400)}, {"1H", as(399) + "\n", as(400) + "\n"}, {"H", as(199) + "\n" + as(199), as(199) + "\n" + as(200)}, {"N", as(200) + "\n" + as(199), as(200) + "\n" + as(200)}, {"n", "a\n" + as(400), "a\n" + as(401)}, {"1{n}", as(400) + "\n" + as(400), as(400) + "\n" + as(401)},
	} {
		checkAllowed(t, []allowed{{c.script, c.fits}, {c.script, c.fits + "\n"}})
		checkRefused(t, []refused{{c.script, c.passes, api.ErrSpace}, {c.script, c.passes + "\nb\n", api.ErrSpace}})
	}
}

func TestJoinedSpace(t *testing.T) {
	checkAllowed(t, []allowed{{"N", as(200) + "\n" + as(199)}, {"H;$!d;x", as(200) + "\n" + as(198)}, {"$!N;P;D", as(200) + "\n" + as(199) + "\n" + as(200)}})
	checkRefused(t, []refused{{"N", as(200) + "\n" + as(200), api.ErrSpace}, {"H;$!d;x", as(200) + "\n" + as(199), api.ErrSpace}, {"$!N;P;D", as(200) + "\n" + as(199) + "\n" + as(201), api.ErrSpace}})
}

func TestSteps(t *testing.T) {
	for _, c := range []struct {
		script string
		each   int // the commands that each line comes to
	}{
		{"h;h", 2}, {"9999h;9999h", 2}, {"!h;!h", 2}, {"{h}", 2}, {"{{}}", 2}, {"{};{}", 2}, {"9999{h;h;h};h", 2}, {"!{h;h};h", 2}, {":a;:b", 2}, {"h;b;h;h", 2}, {"h;b a;h;h;:b;h;:a;h", 4}, {"t;t", 2}, {"h;d;h", 2}, {"h;c\nh", 2}, {"h;D;h", 2}, {"/^$/s/^/x\\ny/;D", 4}, {"$!N;P;D", 3}, {"{};{};{}", 3}, {"{{{{{}}}}}", 5}, {"{{{{{9999h}}}}}", 6}, {"9999{{{{{h}}}}};!{};h", 3}, {"/x/h;$!{};2,3h;/x/,1h", 4}, {"h;h;h;h;h", 5}, {pees(40), 40}, {"{{{{{h}}}}};9999,1h;/x/,/y/h;$!h;y///", 10},
	} {
		checkAllowed(t, []allowed{{c.script, empties(5000 / c.each)}})
		checkRefused(t, []refused{{c.script, empties(5000/c.each + 1), api.ErrSteps}})
	}
	checkAllowed(t, []allowed{{"h", empties(3000)}, {"b;h;h", empties(3000)}, {"9999{h;h}", empties(3000)}})
	checkRefused(t, []refused{{":a;b a", "a", api.ErrSteps}, {":a;s/a/a/;ta", "a", api.ErrSteps}, {"s/^/\\n/;D", "a", api.ErrSteps}, {"{:x;{:y;bx}}", "a", api.ErrSteps}, {":a;$!N;ba", "a\nb", api.ErrSteps}})
}

func TestStepsAreCountedInAll(t *testing.T) {
	for _, c := range []struct {
		script string
		lines  int // the most of which it may be given, with what it puts out of them
		out    string
	}{
		{"h;h", 2500, empties(2500)}, {"h;d", 2500, ""}, {"9999h;9999h", 2500, empties(2500)}, {"{}", 3000, empties(3000)},
		// All of it in one cycle.
		{":a;n;ba", 1667, empties(1667)}, {":a;$!{n;ba}", 1250, empties(1250)}, {":a;n;{{}};ba", 1000, empties(1000)}, {"$!N;P;D", 1666, empties(1666)},
	} {
		if got := edit(parsed(t, c.script), empties(c.lines), false); got != (answer{c.out, api.OK}) {
			t.Errorf("P4: %q of %d lines: %d bytes, %d, want %d bytes", c.script, c.lines, len(got.out), got.err, len(c.out))
		}
		if c.lines < api.MaxInput {
			checkRefused(t, []refused{{c.script, empties(c.lines + 1), api.ErrSteps}, {c.script, empties(api.MaxInput), api.ErrSteps}})
		}
	}
}

func TestOutput(t *testing.T) {
	line := as(399) // 400 bytes, when it is printed
	for _, c := range []struct {
		prints int
		script string
		quiet  bool
		err    api.Errno
	}{
		{19, "", false, api.OK}, {20, "", false, api.ErrOutput}, {20, "", true, api.OK}, {21, "", true, api.ErrOutput},
		{19, "h", false, api.OK}, {19, "=", false, api.ErrOutput}, {19, "i", false, api.ErrOutput}, {19, "a", false, api.ErrOutput}, {20, "a", true, api.ErrOutput}, {20, "=", true, api.ErrOutput}, {20, "i", true, api.ErrOutput}, {20, "d", false, api.OK}, {20, "D", false, api.OK}, {20, "c", false, api.ErrOutput}, {20, "a\nd", false, api.ErrOutput}, {20, "a\nD", true, api.ErrOutput},
		{20, "p", true, api.ErrOutput}, {20, "P", true, api.ErrOutput}, {20, "s/a/b/", true, api.OK}, {20, "s/a/b/p", true, api.ErrOutput}, {20, "s/x/b/p", true, api.OK}, {19, "s/a/b/p", true, api.OK}, {20, "s/.*//;p", true, api.ErrOutput}, {20, "s/.*//;P", true, api.ErrOutput}, {20, "s/.*/\\nx/;P", true, api.ErrOutput},
		{19, "q", false, api.OK}, {20, "q", false, api.ErrOutput}, {20, "q", true, api.OK}, {19, "n", false, api.OK}, {20, "n", false, api.ErrOutput}, {20, "N", false, api.ErrOutput}, {20, "N", true, api.OK},
	} {
		script := pees(c.prints) + c.script
		got := edit(parsed(t, script), line, c.quiet)
		if got.err != c.err || (got.out == "") != (c.err != api.OK) {
			t.Errorf("P4: %q of 399 runes, quiet %v: %d bytes, %d, want %d", script, c.quiet, len(got.out), got.err, c.err)
		}
		if got.err == api.OK && got.out != "" && len(got.out) > api.MaxOutput {
			t.Errorf("P4: %q: %d bytes put out", script, len(got.out))
		}
	}
}

func TestOutputJustMet(t *testing.T) {
	line, half := as(399)+"\n", strings.Repeat("é", 199)+"a\n" // both are 400 bytes
	for _, c := range []struct {
		script, input string
		quiet         bool
		want          string // all of MaxOutput
	}{
		{pees(19), line, false, strings.Repeat(line, 20)}, {pees(20), line, true, strings.Repeat(line, 20)}, {pees(20) + "d", line, false, strings.Repeat(line, 20)}, {pees(19), half, false, strings.Repeat(half, 20)}, {pees(4), strings.Repeat(half, 4), false, strings.Repeat(half, 20)},
		{"i 12", empties(2000), false, strings.Repeat("12\n\n", 2000)}, {"i 123", empties(2000), true, strings.Repeat("123\n", 2000)}, {"c 123", empties(2000), true, strings.Repeat("123\n", 2000)}, {"a 12", empties(2000), false, strings.Repeat("\n12\n", 2000)},
	} {
		got := edit(parsed(t, c.script), c.input, c.quiet)
		if len(c.want) != api.MaxOutput || got != (answer{c.want, api.OK}) {
			t.Errorf("P4: %q of %d bytes, quiet %v: %d bytes, %d, want %d bytes", c.script, len(c.input), c.quiet, len(got.out), got.err, len(c.want))
		}
		if got := edit(parsed(t, "$i\n"+c.script), c.input, c.quiet); got != (answer{"", api.ErrOutput}) {
			t.Errorf("P4: one byte more than %q puts out: %d bytes, %d, want ErrOutput", c.script, len(got.out), got.err)
		}
	}
}

func TestOutputIsInBytes(t *testing.T) {
	half := strings.Repeat("é", 199) + "a" // 400 bytes, when it is printed, but 201 runes
	checkAllowed(t, []allowed{{pees(19), half}, {pees(9), half + "\n" + half}})
	checkRefused(t, []refused{{pees(21), half, api.ErrOutput}, {pees(11), half + "\n" + half, api.ErrOutput}})
}

func TestQueueIsPutOut(t *testing.T) {
	texts := strings.Repeat("a "+as(97)+"\n", 4)
	checkAllowed(t, []allowed{{texts + "s/.*/" + as(7) + "/", empties(20)}})
	if got := edit(parsed(t, texts+"s/.*/"+as(7)+"/"), empties(20), false); len(got.out) != api.MaxOutput {
		t.Errorf("P4: %d bytes, want 8000", len(got.out))
	}
	checkRefused(t, []refused{{texts + "s/.*/" + as(7) + "/;$a", empties(21), api.ErrOutput}})
}

func TestInputIsLookedAtFirst(t *testing.T) {
	for _, c := range []struct {
		script, input string
		err           api.Errno // what shows on the way
	}{
		{"", as(401) + "\n", api.ErrSpace}, {":a;ba", "a\n", api.ErrSteps}, {pees(21), as(400) + "\n", api.ErrOutput},
	} {
		checkRefused(t, []refused{{c.script, c.input, c.err}, {c.script, c.input + "\xff", api.ErrRune}, {c.script, c.input + empties(3000), api.ErrLong}, {c.script, c.input + "\xff" + empties(3000), api.ErrLong}})
	}
}

// nearTheEnd comes to 4996 commands ahead of the fillers, and puts out 7992 bytes if it is quiet; the last line's commands follow them.
func nearTheEnd(fillers int, commands string) string {
	return "$!{i 1234567\nh;h;d};" + strings.Repeat("y///;", fillers) + commands
}

func TestSpaceOrSteps(t *testing.T) {
	for _, c := range []struct {
		fillers  int
		commands string
		line     int
		err      api.Errno
	}{
		// The space, or the hold, grows by the command 4999: the one behind it is the last that may be come to.
		{2, "s/$/x/;h", 399, api.OK}, {2, "s/$/x/;h", 400, api.ErrSpace}, {2, "H;h", 399, api.OK}, {2, "H;h", 400, api.ErrSpace},
		// By the command 5000: both show at once.
		{3, "s/$/x/;h", 399, api.ErrSteps}, {3, "s/$/x/;h", 400, api.ErrSpace}, {3, "H;h", 399, api.ErrSteps}, {3, "H;h", 400, api.ErrSpace}, {3, "s/$/x/;9h", 400, api.ErrSpace},
		// By the command 5000, and only the cycle's end, or a `}` and that, is come to.
		{3, "s/$/x/", 399, api.OK}, {3, "s/$/x/", 400, api.ErrSpace}, {2, "{s/$/x/}", 399, api.OK}, {2, "{s/$/x/}", 400, api.ErrSpace}, {3, "G", 399, api.OK}, {3, "G", 400, api.ErrSpace},
		// By the command 5001, which is not done.
		{4, "s/$/x/;h", 399, api.ErrSteps}, {4, "s/$/x/;h", 400, api.ErrSteps}, {4, "s/$/x/;h", 401, api.ErrSpace}, {4, "H", 400, api.ErrSteps}, {3, "{s/$/x/}", 400, api.ErrSteps},
	} {
		script := nearTheEnd(c.fillers, c.commands)
		if got := edit(parsed(t, script), empties(999)+as(c.line), true); got.err != c.err || got.out != "" && c.err != api.OK {
			t.Errorf("P4: %d fillers, %q, a line of %d: %d, want %d", c.fillers, c.commands, c.line, got.err, c.err)
		}
	}
}

func TestOutputOrSteps(t *testing.T) {
	for _, c := range []struct {
		fillers  int
		commands string
		line     string
		err      api.Errno
	}{
		{3, "p", "1234567", api.OK}, {3, "p", "12345678", api.ErrOutput}, {3, "p;h", "1234567", api.ErrSteps}, {3, "p;h", "12345678", api.ErrOutput}, {3, "p;p", "1234567", api.ErrSteps},
		{4, "p", "1234567", api.ErrSteps}, {4, "p", "12345678", api.ErrSteps}, {3, "q", "12345678", api.OK}, {4, "q", "12345678", api.ErrSteps}, {3, "a 12345678", "", api.ErrOutput}, {4, "a 12345678", "", api.ErrSteps},
		{3, "i 1234567", "", api.OK}, {3, "i 12345678", "", api.ErrOutput}, {4, "i 12345678", "", api.ErrSteps}, {3, "c 1234567", "", api.OK}, {3, "c 12345678", "", api.ErrOutput}, {4, "c 12345678", "", api.ErrSteps}, {3, "=", "", api.OK}, {3, "s/$/&&/p", "1234567", api.OK}, {3, "s/^/x/p", "1234567", api.ErrOutput}, {4, "s/^/x/p", "1234567", api.ErrSteps}, {3, "P", "12345678", api.ErrOutput},
		// A `D` tells the queue ahead of beginning anew, by the command 5001.
		{1, "s/^/x\\n/;a 1234567\nD", "", api.ErrSteps}, {1, "s/^/x\\n/;a 12345678\nD", "", api.ErrOutput}, {2, "s/^/x\\n/;a 12345678\nD", "", api.ErrSteps}, {2, "a 1234567\nD", "", api.OK}, {2, "a 12345678\nd", "", api.ErrOutput},
	} {
		script := nearTheEnd(c.fillers, c.commands)
		if got := edit(parsed(t, script), empties(999)+c.line+"\n", true); got.err != c.err || got.out != "" && c.err != api.OK {
			t.Errorf("P4: %d fillers, %q, the line %q: %d, want %d", c.fillers, c.commands, c.line, got.err, c.err)
		}
	}
}

func TestOutputOrSpace(t *testing.T) {
	checkRefused(t, []refused{
		// The flag prints ahead of the next command: 402 bytes behind 401 for each `p`.
		{pees(18) + "s/$/x/p", as(400), api.ErrSpace}, {pees(19) + "s/$/x/p", as(400), api.ErrOutput}, {"s/a/" + as(30) + "/gp", as(400), api.ErrOutput}, {"s/a/" + as(30) + "/g", as(400), api.ErrSpace},
		// The cycle's end looks at the space ahead of printing it; a `p` does, too.
		{pees(19) + "s/$/x/", as(400), api.ErrSpace}, {pees(19) + "s/$/x/;p", as(400), api.ErrSpace}, {pees(19) + "H;i x", as(400), api.ErrSpace}, {"s/a/" + as(30) + "/g;q", as(400), api.ErrSpace},
		// An `N` tells the queue ahead of what is come to next.
		{pees(20) + "N", as(399) + "\n" + as(1), api.ErrSpace}, {pees(20) + "a\nN", as(399) + "\n" + as(1), api.ErrOutput}, {pees(19) + "a\nN", as(399) + "\n" + as(1), api.ErrSpace}, {pees(20) + "a\nn", as(399) + "\n" + as(401), api.ErrOutput}, {pees(18) + "a\nn", as(399) + "\n" + as(401), api.ErrSpace},
		// What shows later is not told.
		{pees(21) + "s/$/x/", as(400), api.ErrOutput}, {pees(21), as(400) + "\n" + as(401), api.ErrOutput}, {"p", as(401) + "\n" + as(400), api.ErrSpace},
	})
}
