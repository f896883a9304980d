package adze_test

import (
	"strings"
	"testing"
	"time"

	"adze/api"
)

// refused is an error that Edit answers, be it quiet or not.
type refused struct {
	script, input string
	err           api.Errno
}

func checkRefused(t *testing.T, rows []refused) {
	t.Helper()
	for _, c := range rows {
		for _, quiet := range []bool{false, true} {
			if got := edit(parsed(t, c.script), c.input, quiet); got != (answer{"", c.err}) {
				t.Errorf("P4: %q of %d bytes, quiet %v: %d bytes, %d, want none, %d", c.script, len(c.input), quiet, len(got.out), got.err, c.err)
			}
		}
	}
}

// allowed is what just keeps within the limits: OK is what is to be seen of it.
type allowed struct{ script, input string }

func checkAllowed(t *testing.T, rows []allowed) {
	t.Helper()
	for _, c := range rows {
		for _, quiet := range []bool{false, true} {
			if got := edit(parsed(t, c.script), c.input, quiet); got.err != api.OK {
				t.Errorf("P4: %q of %d bytes, quiet %v: %d, want OK", c.script, len(c.input), quiet, got.err)
			}
		}
	}
}

func as(n int) string { return strings.Repeat("a", n) }

func empties(n int) string { return strings.Repeat("\n", n) }

func TestLongInput(t *testing.T) {
	checkAllowed(t, []allowed{{"", strings.Repeat("aa\n", 1000)}, {"", empties(3000)}, {"", strings.Repeat(strings.Repeat("é", 124)+"a\n", 12)}})
	checkRefused(t, []refused{{"", empties(3001), api.ErrLong}, {"q", empties(3001), api.ErrLong}, {"d", strings.Repeat("é\n", 1001), api.ErrLong}, {"", as(3001), api.ErrLong}, {"", strings.Repeat("\xff", 3001), api.ErrLong}, {"", empties(3000) + "\xff", api.ErrLong}, {":a;ba", empties(3001), api.ErrLong}, {"", as(1000000), api.ErrLong}})
}

func TestBadInput(t *testing.T) {
	checkAllowed(t, []allowed{{"", "\uFFFD"}, {"p", "\x00\x7f"}, {"s/./\uFFFD/", "a\n\U0010FFFF\n"}})
	for _, bad := range []string{"\xff", "\x80", "\xc3", "\xc3\n", "\xe2\x82", "\xc0\xaf", "\xed\xa0\x80", "\xf4\x90\x80\x80", "\uFFFD\xef\xbf"} {
		checkRefused(t, []refused{{"", bad, api.ErrRune}, {"d", "a\n" + bad, api.ErrRune}, {"q", "a\nb\n" + bad + "\n", api.ErrRune}, {"", as(401) + bad, api.ErrRune}, {":a;ba", "a\n" + bad, api.ErrRune}, {"", as(3000-len(bad)) + bad, api.ErrRune}})
	}
}

func TestLongSpace(t *testing.T) {
	for _, script := range []string{"", "p", "d", "q", "!p", "{}", "9!{p}", ":a", "b", "$!N;P;D", "x;x", "s/x/y/", "c", "a", "h;g"} {
		checkAllowed(t, []allowed{{script, as(400)}, {script, as(400) + "\n"}, {script, strings.Repeat("é", 400)}})
		checkRefused(t, []refused{{script, as(401), api.ErrSpace}, {script, as(401) + "\n", api.ErrSpace}, {script, strings.Repeat("é", 401), api.ErrSpace}})
	}
	// A line that is not read is not come to.
	checkAllowed(t, []allowed{{"q", "a\n" + as(401)}, {"2q", "a\nb\n" + as(2000)}})
	checkRefused(t, []refused{{"2q", "a\n" + as(401), api.ErrSpace}, {"n", "a\n" + as(401), api.ErrSpace}, {"N", "\n" + as(400), api.ErrSpace}})
}

func TestSpaceThatGrows(t *testing.T) {
	for _, c := range []struct {
		script string
		fits   int // the longest line that it may be given
	}{
		{"s/$/x/", 399}, {"s/$/x/p", 399}, {"s/$/x/;s/x$//", 399}, {"s/^/éé/", 398}, {"s/a/aa/g", 200}, {"s/^.*$/&&/", 200}, {"s/(.*)/\\1&\\1/", 133}, {"G", 399}, {"h;G", 199}, {"/^a/G;D", 399}, {"/^a/s/^/x\\nb/;D", 397}, {"s/$/x/;d", 399}, {"s/$/x/;q", 399}, {"{s/$/x/}", 399}, {"s/$/x/;t", 399},
		{"h", 400}, {"H", 399}, {"H;d", 399}, {"H;g", 399}, {"H;x;s/.//", 399}, {"h;H", 199}, {"h;H;h", 199}, {"H;q", 399}, {"H;c x", 399}, {"H;9!p", 399},
	} {
		checkAllowed(t, []allowed{{c.script, as(c.fits)}})
		checkRefused(t, []refused{{c.script, as(c.fits + 1), api.ErrSpace}})
	}
}

func TestJoinedSpace(t *testing.T) {
	checkAllowed(t, []allowed{{"N", as(200) + "\n" + as(199)}, {"H;$!d;x", as(200) + "\n" + as(198)}, {"$!N;P;D", as(200) + "\n" + as(199) + "\n" + as(200)}})
	checkRefused(t, []refused{{"N", as(200) + "\n" + as(200), api.ErrSpace}, {"H;$!d;x", as(200) + "\n" + as(199), api.ErrSpace}, {"$!N;P;D", as(200) + "\n" + as(199) + "\n" + as(201), api.ErrSpace}})
}

func TestSteps(t *testing.T) {
	for _, c := range []struct {
		script string
		each   int // the commands that each line comes to
	}{
		{"h;h", 2}, {"9999h;9999h", 2}, {"!h;!h", 2}, {"{h}", 2}, {"{{}}", 2}, {"{};{}", 2}, {"9999{h;h;h};h", 2}, {"!{h;h};h", 2}, {":a;:b", 2}, {"h;b;h;h", 2}, {"h;b a;h;h;:b;h;:a;h", 4}, {"t;t", 2}, {"h;d;h", 2}, {"h;c\nh", 2}, {"h;D;h", 2}, {"/^$/s/^/x\\ny/;D", 4}, {"h;h;h;h;h", 5}, {pees(40), 40}, {"{{{{{h}}}}};9999,1h;/x/,/y/h;$!h;y///", 10},
	} {
		checkAllowed(t, []allowed{{c.script, empties(5000 / c.each)}})
		checkRefused(t, []refused{{c.script, empties(5000/c.each + 1), api.ErrSteps}})
	}
	checkAllowed(t, []allowed{{"h", empties(3000)}, {"b;h;h", empties(3000)}, {"9999{h;h}", empties(3000)}})
	checkRefused(t, []refused{{":a;b a", "a", api.ErrSteps}, {":a;s/a/a/;ta", "a", api.ErrSteps}, {"s/^/\\n/;D", "a", api.ErrSteps}, {"{:x;{:y;bx}}", "a", api.ErrSteps}, {":a;$!N;ba", "a\nb", api.ErrSteps}})
}

func TestOutput(t *testing.T) {
	line := as(399) // 400 bytes, when it is printed
	for _, c := range []struct {
		prints int
		script string
		quiet  bool
		err    api.Errno
	}{
		{19, "", false, api.OK}, {20, "", false, api.ErrOutput}, {20, "", true, api.OK}, {21, "", true, api.ErrOutput},
		{19, "h", false, api.OK}, {19, "=", false, api.ErrOutput}, {19, "i", false, api.ErrOutput}, {19, "a", false, api.ErrOutput}, {20, "a", true, api.ErrOutput}, {20, "=", true, api.ErrOutput}, {20, "i", true, api.ErrOutput}, {20, "d", false, api.OK}, {20, "D", false, api.OK}, {20, "c", false, api.ErrOutput}, {20, "a\nd", false, api.ErrOutput}, {20, "a\nD", true, api.ErrOutput},
		{20, "p", true, api.ErrOutput}, {20, "P", true, api.ErrOutput}, {20, "s/a/b/", true, api.OK}, {20, "s/a/b/p", true, api.ErrOutput}, {20, "s/x/b/p", true, api.OK}, {19, "s/a/b/p", true, api.OK}, {20, "s/.*//;p", true, api.ErrOutput}, {20, "s/.*//;P", true, api.ErrOutput}, {20, "s/.*/\\nx/;P", true, api.ErrOutput},
		{19, "q", false, api.OK}, {20, "q", false, api.ErrOutput}, {20, "q", true, api.OK}, {19, "n", false, api.OK}, {20, "n", false, api.ErrOutput}, {20, "N", false, api.ErrOutput}, {20, "N", true, api.OK},
	} {
		script := pees(c.prints) + c.script
		got := edit(parsed(t, script), line, c.quiet)
		if got.err != c.err || (got.out == "") != (c.err != api.OK) {
			t.Errorf("P4: %q of 399 runes, quiet %v: %d bytes, %d, want %d", script, c.quiet, len(got.out), got.err, c.err)
		}
		if got.err == api.OK && got.out != "" && len(got.out) > api.MaxOutput {
			t.Errorf("P4: %q: %d bytes put out", script, len(got.out))
		}
	}
}

func TestOutputIsInBytes(t *testing.T) {
	half := strings.Repeat("é", 199) + "a" // 400 bytes, when it is printed, but 201 runes
	checkAllowed(t, []allowed{{pees(19), half}, {pees(9), half + "\n" + half}})
	checkRefused(t, []refused{{pees(21), half, api.ErrOutput}, {pees(11), half + "\n" + half, api.ErrOutput}})
}

func TestQueueIsPutOut(t *testing.T) {
	texts := strings.Repeat("a "+as(97)+"\n", 4)
	checkAllowed(t, []allowed{{texts + "s/.*/" + as(7) + "/", empties(20)}})
	if got := edit(parsed(t, texts+"s/.*/"+as(7)+"/"), empties(20), false); len(got.out) != api.MaxOutput {
		t.Errorf("P4: %d bytes, want 8000", len(got.out))
	}
	checkRefused(t, []refused{{texts + "s/.*/" + as(7) + "/;$a", empties(21), api.ErrOutput}})
}

// nearTheEnd comes to 4996 commands ahead of the fillers, and puts out 7992 bytes if it is quiet; the last line's commands follow them.
func nearTheEnd(fillers int, commands string) string {
	return "$!{i 1234567\nh;h;d};" + strings.Repeat("y///;", fillers) + commands
}

func TestSpaceOrSteps(t *testing.T) {
	for _, c := range []struct {
		fillers int
		line    int
		err     api.Errno
	}{
		// The space grows by the command 4999: the one behind it is the last that may be come to.
		{2, 399, api.OK}, {2, 400, api.ErrSpace},
		// By the command 5000: both show at once.
		{3, 399, api.ErrSteps}, {3, 400, api.ErrSpace},
		// By the command 5001, which is not done.
		{4, 399, api.ErrSteps}, {4, 400, api.ErrSteps}, {4, 401, api.ErrSpace},
	} {
		script := nearTheEnd(c.fillers, "s/$/x/;h")
		if got := edit(parsed(t, script), empties(999)+as(c.line), true); got.err != c.err || got.out != "" && c.err != api.OK {
			t.Errorf("P4: %d fillers, a line of %d: %d, want %d", c.fillers, c.line, got.err, c.err)
		}
	}
}

func TestOutputOrSteps(t *testing.T) {
	for _, c := range []struct {
		fillers  int
		commands string
		line     string
		err      api.Errno
	}{
		{3, "p", "1234567", api.OK}, {3, "p", "12345678", api.ErrOutput}, {3, "p;h", "1234567", api.ErrSteps}, {3, "p;h", "12345678", api.ErrOutput}, {3, "p;p", "1234567", api.ErrSteps},
		{4, "p", "1234567", api.ErrSteps}, {4, "p", "12345678", api.ErrSteps}, {3, "q", "12345678", api.OK}, {4, "q", "12345678", api.ErrSteps}, {3, "a 12345678", "", api.ErrOutput}, {4, "a 12345678", "", api.ErrSteps},
	} {
		script := nearTheEnd(c.fillers, c.commands)
		if got := edit(parsed(t, script), empties(999)+c.line+"\n", true); got.err != c.err || got.out != "" && c.err != api.OK {
			t.Errorf("P4: %d fillers, %q, the line %q: %d, want %d", c.fillers, c.commands, c.line, got.err, c.err)
		}
	}
}

func TestOutputOrSpace(t *testing.T) {
	checkRefused(t, []refused{
		// The flag prints ahead of the next command: 402 bytes behind 401 for each `p`.
		{pees(18) + "s/$/x/p", as(400), api.ErrSpace}, {pees(19) + "s/$/x/p", as(400), api.ErrOutput}, {"s/a/" + as(30) + "/gp", as(400), api.ErrOutput}, {"s/a/" + as(30) + "/g", as(400), api.ErrSpace},
		// The cycle's end looks at the space ahead of printing it; a `p` does, too.
		{pees(19) + "s/$/x/", as(400), api.ErrSpace}, {pees(19) + "s/$/x/;p", as(400), api.ErrSpace}, {pees(19) + "H;i x", as(400), api.ErrSpace}, {"s/a/" + as(30) + "/g;q", as(400), api.ErrSpace},
		// What shows later is not told.
		{pees(21) + "s/$/x/", as(400), api.ErrOutput}, {pees(21), as(400) + "\n" + as(401), api.ErrOutput}, {"p", as(401) + "\n" + as(400), api.ErrSpace},
	})
}

func TestMatchesAreFoundInTime(t *testing.T) {
	for _, script := range []string{
		":a;/" + strings.Repeat("a*", 29) + "b/!ba", ":a;/" + strings.Repeat("a?", 15) + strings.Repeat("a", 15) + "/ba", ":a;s/" + strings.Repeat("(.*)", 9) + "b/x/;ba", ":a;s/^" + strings.Repeat("[^b]+", 28) + "$/&/;ta", ":a;s/" + strings.Repeat("a*a?", 14) + "$/&/g;ta", ":a;s/a?/&/g;ba",
	} {
		s := parsed(t, script)
		done := make(chan answer)
		go func() { done <- edit(s, as(400), false) }()
		select {
		case got := <-done:
			if got != (answer{"", api.ErrSteps}) {
				t.Errorf("P4: %q of 400 runes: %v, want ErrSteps", script, got)
			}
		case <-time.After(60 * time.Second):
			t.Fatalf("P1: %q takes too many steps", script)
		}
	}
}
