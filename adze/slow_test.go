package adze_test

import (
	"strings"
	"testing"
	"time"

	"adze/api"
)

// inTime fails instead of going on for ages where steps are not bounded.
func inTime(t *testing.T, what string, do func()) {
	t.Helper()
	done := make(chan bool)
	go func() {
		do()
		close(done)
	}()
	select {
	case <-done:
	case <-time.After(60 * time.Second):
		t.Fatalf("P1: %s takes too many steps", what)
	}
}

func TestMatchesAreFoundInTime(t *testing.T) {
	for _, script := range []string{
		":a;/" + strings.Repeat("a*", 29) + "b/!ba", ":a;/" + strings.Repeat("a?", 15) + strings.Repeat("a", 15) + "/ba", ":a;s/" + strings.Repeat("(.*)", 9) + "b/x/;ba", ":a;s/^" + strings.Repeat("[^b]+", 28) + "$/&/;ta", ":a;s/" + strings.Repeat("a*a?", 14) + "$/&/g;ta", ":a;s/a?/&/g;ba",
	} {
		s := parsed(t, script)
		inTime(t, script, func() {
			if got := edit(s, as(400), false); got != (answer{"", api.ErrSteps}) {
				t.Errorf("P4: %q of 400 runes: %v, want ErrSteps", script, got)
			}
		})
	}
}

// stubborn makes patterns of a number of items that have many ways to fail, and do fail, in a space of `a` alone.
func stubborn(items int) []string {
	return []string{strings.Repeat("a*", items-1) + "b", strings.Repeat("a+", items-1) + "b", "^" + strings.Repeat(".*", items-3) + "b$", strings.Repeat("[^b]*", items-3) + "(b)", strings.Repeat("a?", items-1) + "b"}
}

// fastest is the least time of some runs, in which it is hardly seen what else the machine does.
func fastest(do func()) time.Duration {
	least := time.Hour
	for range 25 {
		begun := time.Now()
		do()
		least = min(least, time.Since(begun))
		if least > time.Second {
			break
		}
	}
	return least
}

// editTime is the time of an Edit that looks for a pattern and finds none. (A second address is looked for from the second line on.)
func editTime(t *testing.T, script string, runes int) time.Duration {
	t.Helper()
	s := parsed(t, script)
	input := "\n" + as(runes) + "\n"
	least, got := time.Duration(0), answer{}
	inTime(t, script, func() {
		least = fastest(func() { got = edit(s, input, false) })
	})
	if got != (answer{input, api.OK}) {
		t.Errorf("P4: %q of %d runes: %v, want no change", script, runes, got)
	}
	return least
}

// The bounds below are some times those that P1 gives: they are to catch what grows by a power more, not what is a little slower.

func TestTimeGrowsAsTheSpaceDoes(t *testing.T) {
	for _, items := range []int{3, 4, 8, 30} {
		for _, pattern := range stubborn(items) {
			for _, script := range []string{"/" + pattern + "/p", "1,/" + pattern + "/h", "s/" + pattern + "/x/", "s/" + pattern + "/x/g", "s/" + pattern + "/x/3"} {
				short, long := editTime(t, script, 50), editTime(t, script, 400)
				if long > 2*8*8*short {
					t.Fatalf("P1: %q: %v in 50 runes, %v in 400", script, short, long)
				}
			}
		}
	}
}

func TestTimeGrowsAsThePatternDoes(t *testing.T) {
	few, some, many := stubborn(5), stubborn(10), stubborn(30)
	for _, runes := range []int{20, 100, 400} {
		for i := range few {
			short, middle, long := editTime(t, "s/"+few[i]+"/x/", runes), editTime(t, "s/"+some[i]+"/x/", runes), time.Duration(0)
			if middle <= 4*2*short {
				long = editTime(t, "s/"+many[i]+"/x/", runes)
			}
			if middle > 4*2*short || long > 4*6*short {
				t.Fatalf("P1: in %d runes: %v with %q, %v with 10 items, %v with 30", runes, short, few[i], middle, long)
			}
		}
	}
}
