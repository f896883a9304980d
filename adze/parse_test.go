package adze_test

import (
	"slices"
	"strings"
	"testing"

	"adze/adze"
	"adze/api"
)

type wrong struct {
	script string
	err    api.Errno
	at     int
}

func checkWrong(t *testing.T, rows []wrong) {
	t.Helper()
	for _, c := range rows {
		s, err, at := adze.Parse(c.script)
		if s != nil || err != c.err || at != c.at {
			t.Errorf("P3: Parse(%q) = %v, %d, %d, want nil, %d, %d", c.script, s, err, at, c.err, c.at)
		}
	}
}

func checkFine(t *testing.T, scripts []string) {
	t.Helper()
	for _, script := range scripts {
		s, err, at := adze.Parse(script)
		if s == nil || err != api.OK || at != 0 {
			t.Errorf("P3: Parse(%q) = %v, %d, %d, want a Script, 0, 0", script, s, err, at)
		}
	}
}

func pees(n int) string { return strings.Repeat("p;", n) }

func TestOrdinaryScripts(t *testing.T) {
	checkFine(t, []string{
		"", " ", ";;\n\t;", "p", "p;", ";p", "p;;d", "p\nd", " \tp \t; d", "1!G;h;$!d", "$!N;P;D", ":a;$!{N;b a};s/\\n/ /g", "2q",
		"=;d;D;g;G;h;H;n;N;p;P;q;x", "1p", "$p", "//p", "/a/p", "1,2p", "2,1p", "$,1p", "/a/,/b/!d", "1 ,\t2 ! p", "! p",
		"{}", "{ }", "{;}", "{p}", "{p;}", "{p }", "{\np\n}\n", "{p}{d}", "{p}p", "{}p;{}", "1{p}", "1!{p}", "{{p}p}", "{}1p", "1,/a/!{{}}",
		"a", "c\n", "i ", "a x", "a\tx\np", "1,2c x;p}", "{a x\n}", "{a\n}", "$!i é",
		":a", ":a\n:b", ":a ;p", "{:a}", "{:a;b a}", "b", "t", "b;t", "b ;", "b\n", "{b}", "{b }", "b a;:a", "ba;:a", "t\t a\n:a", "{t a}:a", "1,$!b a;:a",
		"s///", "s/a/b/", "s/a/b/;", "{s/a/b/}", "{s/a/b/gp3 }", "s/;}\t/;}\t/", "s/a/b/10g", "s/a/b/g10", "s/a/b/pg", "1!s/.//",
		"y///", "y/a/a/", "y/ab/bb/;p", "{y/a/b/}", "y/é/e/", "y/;}/}\t/ ",
		"s/^a*b+c?.$/x/", "s/^$//", "s/((a)b)(c)//", "s/]-&//", `s/\.\[\]\(\)\*\+\?\^\$\/\-\\\n//`, `/[^a-a\]\-\/.*+?$(){}é-ü]+/p`, `/[\*-\+]/p`,
		"s/\uFFFD/\x00/", "a \uFFFD", "y/\uFFFD/\r/",
	})
}

func TestExamplesOfTheDocument(t *testing.T) {
	checkWrong(t, []wrong{
		{"s/a/b", api.ErrForm, 5}, {"k", api.ErrForm, 0}, {"1,p", api.ErrForm, 2}, {"0p", api.ErrRange, 0}, {"{p", api.ErrForm, 2}, {"s/(a/b/", api.ErrGroup, 2},
		{"s/a/\\1/", api.ErrGroup, 4}, {"b x", api.ErrLabel, 0}, {"y/ab/c/", api.ErrRange, 0}, {"p p", api.ErrForm, 2}, {":a b", api.ErrForm, 3},
	})
}

func TestLimitsJustMet(t *testing.T) {
	checkFine(t, []string{
		strings.Repeat(" ", 500), "a " + strings.Repeat("é", 249), "p;a " + strings.Repeat("x", 496),
		pees(40), pees(39) + "{}", pees(39) + ":a", pees(38) + "{p}", strings.Repeat("{}", 40),
		"{{{{{p}}}}}", "{{{{{}}}}}{{{{{}}}}}", "{{{{{}{}}{}}}}",
		":abcdefgh", "b abcdefgh;:abcdefgh", "t zzzzzzzz\n:zzzzzzzz",
		"1p", "9999p", "1,9999p", strings.Repeat("0", 400) + "9999p", "s/a/b/9999", "s/a/b/0001",
		"s/" + strings.Repeat("a", 30) + "/b/", "/" + strings.Repeat("a*", 30) + "/p", "/^" + strings.Repeat("[a-z]", 28) + "$/p", "/a/,/" + strings.Repeat("()", 9) + strings.Repeat(".", 12) + "/p",
		"s/()()()()()()()()()/\\9\\1/", "s/(((((((((a)))))))))/\\9/", "/()()()()()()()()()/,/()()()()()()()()()/p",
	})
}

func TestTooLong(t *testing.T) {
	checkWrong(t, []wrong{
		{strings.Repeat(" ", 501), api.ErrLong, 0}, {strings.Repeat("k", 501), api.ErrLong, 0}, {strings.Repeat("\xff", 501), api.ErrLong, 0},
		{"a " + strings.Repeat("é", 249) + "x", api.ErrLong, 0}, {strings.Repeat("p", 100000), api.ErrLong, 0},
	})
}

func TestBadRunes(t *testing.T) {
	checkWrong(t, []wrong{
		{"\xff", api.ErrRune, 0}, {"p\xff", api.ErrRune, 1}, {"kkk\xc3", api.ErrRune, 3}, {"a é\xe2\x82", api.ErrRune, 4}, {"\xed\xa0\x80", api.ErrRune, 0}, {"p;\xc0\xaf", api.ErrRune, 2},
		{"a \uFFFD\xef\xbf", api.ErrRune, 5}, {"\xf4\x90\x80\x80", api.ErrRune, 0}, {"0p;{\x80", api.ErrRune, 4}, {strings.Repeat(" ", 499) + "\xff", api.ErrRune, 499},
	})
}

func TestWhatCannotStand(t *testing.T) {
	checkWrong(t, []wrong{
		{"k", api.ErrForm, 0}, {"é", api.ErrForm, 0}, {"\r", api.ErrForm, 0}, {"p\r", api.ErrForm, 1}, {"#", api.ErrForm, 0}, {"p;k", api.ErrForm, 2}, {"{p;é}", api.ErrForm, 3}, {"pp", api.ErrForm, 1}, {"p  d", api.ErrForm, 3}, {"p{", api.ErrForm, 1}, {"p1", api.ErrForm, 1}, {"p!", api.ErrForm, 1}, {"Q", api.ErrForm, 0}, {"S/a/b/", api.ErrForm, 0},
		{"}", api.ErrForm, 0}, {"p}", api.ErrForm, 1}, {"p ;}", api.ErrForm, 3}, {"{}}", api.ErrForm, 2}, {"1}", api.ErrForm, 1}, {"{1}", api.ErrForm, 2}, {"{ $ }", api.ErrForm, 4}, {"{!}", api.ErrForm, 2}, {"{! }", api.ErrForm, 3},
		{"1;p", api.ErrForm, 1}, {"1\np", api.ErrForm, 1}, {"1 2p", api.ErrForm, 2}, {"1$p", api.ErrForm, 1}, {"$$p", api.ErrForm, 1}, {"/a//b/p", api.ErrForm, 3}, {"1k", api.ErrForm, 1}, {"1 k", api.ErrForm, 2}, {"1,p", api.ErrForm, 2}, {"1, p", api.ErrForm, 3}, {"1,\n2p", api.ErrForm, 2}, {"1,,2p", api.ErrForm, 2}, {"1,!p", api.ErrForm, 2}, {"1,2,3p", api.ErrForm, 3}, {",p", api.ErrForm, 0}, {"-1p", api.ErrForm, 0}, {"!!p", api.ErrForm, 1}, {"! !p", api.ErrForm, 2}, {"!1p", api.ErrForm, 1}, {"!;p", api.ErrForm, 1}, {"1!,2p", api.ErrForm, 2}, {"٣p", api.ErrForm, 0},
		{"1:a", api.ErrForm, 1}, {"/a/ :a", api.ErrForm, 4}, {"1,$:a", api.ErrForm, 3}, {"!:a", api.ErrForm, 1}, {": a", api.ErrForm, 1}, {":;", api.ErrForm, 1}, {":\na", api.ErrForm, 1}, {":A", api.ErrForm, 1}, {":1", api.ErrForm, 1}, {":é", api.ErrForm, 1}, {"{:}", api.ErrForm, 2}, {":a1", api.ErrForm, 2}, {":aB", api.ErrForm, 2}, {":a{", api.ErrForm, 2}, {":a b", api.ErrForm, 3},
		{"b1", api.ErrForm, 1}, {"b  A", api.ErrForm, 3}, {"ba1", api.ErrForm, 2}, {"b a b", api.ErrForm, 4}, {"taé", api.ErrForm, 2}, {"t{", api.ErrForm, 1}, {"b:a", api.ErrForm, 1},
		{"ax", api.ErrForm, 1}, {"a;", api.ErrForm, 1}, {"c\\", api.ErrForm, 1}, {"{i}", api.ErrForm, 2}, {"a\r\n", api.ErrForm, 1}, {"é x", api.ErrForm, 0},
		{"s,a,b,", api.ErrForm, 1}, {"s /a/b/", api.ErrForm, 1}, {"s;", api.ErrForm, 1}, {"s\n", api.ErrForm, 1}, {"s/a\n/b/", api.ErrForm, 3}, {"s/a/b\n/", api.ErrForm, 5}, {"s/a/\\\n/", api.ErrForm, 5}, {"s/a/\\0/", api.ErrForm, 5}, {"s/a/é\\q/", api.ErrForm, 7}, {"s/a/\\é/", api.ErrForm, 5}, {"s/a/\\(/", api.ErrForm, 5},
		{"s/a/b/gg", api.ErrForm, 7}, {"s/a/b/pp", api.ErrForm, 7}, {"s/a/b/gpg", api.ErrForm, 8}, {"s/a/b/1g2", api.ErrForm, 8}, {"s/a/b/1p0", api.ErrForm, 8}, {"s/a/b/ g", api.ErrForm, 7}, {"s/a/b/g p", api.ErrForm, 8}, {"s/a/b/i", api.ErrForm, 6}, {"s/a/b//", api.ErrForm, 6}, {"s/a/b/{", api.ErrForm, 6},
		{"y,a,b,", api.ErrForm, 1}, {"y /a/b/", api.ErrForm, 1}, {"y/a\n/bc/", api.ErrForm, 3}, {"y/a/\n/", api.ErrForm, 4}, {"y/\\a/b/", api.ErrForm, 3}, {"y/a/\\&/", api.ErrForm, 5}, {"y/é\\é/ab/", api.ErrForm, 5}, {"y/\\\n/a/", api.ErrForm, 3}, {"y/a/b/g", api.ErrForm, 6}, {"y/a/b/ p", api.ErrForm, 7},
	})
}

func TestPatternsThatCannotStand(t *testing.T) {
	for _, c := range []wrong{
		{"*/", api.ErrForm, 0}, {"a+*/", api.ErrForm, 2}, {"(?a)/", api.ErrForm, 1}, {"(a)*/", api.ErrForm, 3}, {"^+/", api.ErrForm, 1}, {"a^/", api.ErrForm, 1}, {"(^/", api.ErrForm, 1}, {"a$b/", api.ErrForm, 2}, {"$$/", api.ErrForm, 1}, {"$)/", api.ErrForm, 1}, {"\\q/", api.ErrForm, 1}, {"a\\1/", api.ErrForm, 2}, {"é\n/", api.ErrForm, 2},
		{"[]/", api.ErrForm, 1}, {"[^]/", api.ErrForm, 2}, {"[-a]/", api.ErrForm, 1}, {"[a-]/", api.ErrForm, 3}, {"[a-c-e]/", api.ErrForm, 4}, {"[a^]/", api.ErrForm, 2}, {"[[]/", api.ErrForm, 1}, {"[a/]/", api.ErrForm, 2}, {"[\n]/", api.ErrForm, 1}, {"[\\q]/", api.ErrForm, 2}, {"[a-\\q]/", api.ErrForm, 4},
		{"[b-a]/", api.ErrRange, 1}, {"[é\\]-\\[]/", api.ErrRange, 3}, {"[z-a*", api.ErrRange, 1}, {strings.Repeat("a", 31) + "/", api.ErrRange, 0}, {"^" + strings.Repeat("a?", 29) + "$/", api.ErrRange, 0},
		{")/", api.ErrGroup, 0}, {"é)/", api.ErrGroup, 2}, {"(/", api.ErrGroup, 0}, {"(a)((b)/", api.ErrGroup, 0}, {"()()()()()()()()()()/", api.ErrGroup, 18}, {"((((((((((\n", api.ErrGroup, 9},
	} {
		for _, ahead := range []string{"s/", "/", "1,/", "{; /é/ , /"} {
			checkWrong(t, []wrong{{ahead + c.script + "k", c.err, len(ahead) + c.at}})
		}
	}
}

func TestEndsTooEarly(t *testing.T) {
	for _, c := range []struct {
		script string
		fine   []int // the lengths at which it may end
	}{
		{"1,$!p", []int{0, 5}}, {"1 , 2 ! {p }", []int{0, 12}}, {"{{}}", []int{0, 4}}, {"{a x\n}", []int{0, 6}}, {":ab", []int{0, 2, 3}},
		{`/a[^b-c\n]\.$/ !p`, []int{0, 17}}, {`s/(a)/\1&\n/2gp`, []int{0, 12, 13, 14, 15}}, {`y/\na/\\b/`, []int{0, 10}},
	} {
		for n := range len(c.script) + 1 {
			if slices.Contains(c.fine, n) {
				checkFine(t, []string{c.script[:n]})
			} else {
				checkWrong(t, []wrong{{c.script[:n], api.ErrForm, n}})
			}
		}
	}
	checkWrong(t, []wrong{{"s/é", api.ErrForm, 4}, {"y/é/é", api.ErrForm, 7}, {"{a é", api.ErrForm, 5}, {"{a }", api.ErrForm, 4}, {"{a x}", api.ErrForm, 5}})
}

func TestOutOfRange(t *testing.T) {
	checkWrong(t, []wrong{
		{"0p", api.ErrRange, 0}, {"0", api.ErrRange, 0}, {"000k", api.ErrRange, 0}, {"10000p", api.ErrRange, 0}, {"10000", api.ErrRange, 0}, {" 99999k", api.ErrRange, 1}, {"1,0k", api.ErrRange, 2}, {"1 , 10000!k", api.ErrRange, 4}, {"/é/,0", api.ErrRange, 5}, {"00010000p", api.ErrRange, 0}, {"4294967297p", api.ErrRange, 0}, {"18446744073709551617p", api.ErrRange, 0},
		{"s/a/b/0", api.ErrRange, 6}, {"s/a/b/g10000k", api.ErrRange, 7}, {"s/a/b/00p", api.ErrRange, 6},
		{":abcdefghi", api.ErrRange, 1}, {":abcdefghi1", api.ErrRange, 1}, {"b abcdefghi", api.ErrRange, 2}, {"b abcdefghi1", api.ErrRange, 2}, {"1t\t abcdefghi", api.ErrRange, 4},
		{"y/ab/c/", api.ErrRange, 0}, {"y/a/bc/", api.ErrRange, 0}, {"y//a/k", api.ErrRange, 0}, {"y/aa/bc/", api.ErrRange, 0}, {"1!y/é/ab/", api.ErrRange, 2}, {"y/\\n\\n/ab/", api.ErrRange, 0}, {"y/\\\\x\\\\/abc/", api.ErrRange, 0}, {"y/aa/b/", api.ErrRange, 0},
		{"y/aa/b", api.ErrForm, 6}, {"y/aa/\\b/", api.ErrForm, 6}, {"y/ab/c\n/", api.ErrForm, 6},
	})
	checkFine(t, []string{"y/n\\n/ab/", "y/ab/aa/", "y/éè/ab/"})
}

func TestGroupsThatAreNot(t *testing.T) {
	checkWrong(t, []wrong{
		{"s/a/\\1/", api.ErrGroup, 4}, {"s/(a)/é\\2", api.ErrGroup, 8}, {"s/()()()()()()()()/\\8\\9\n", api.ErrGroup, 21}, {"/(a)/s/b/\\1/", api.ErrGroup, 9}, {"s/(a)/x/;s/b/\\1/", api.ErrGroup, 13}, {"s/\\(a\\)/\\1/", api.ErrGroup, 8}, {"s/[()]/\\1/", api.ErrGroup, 7},
	})
	checkFine(t, []string{"s/(a)/\\10/", "s/(a)/\\\\2/", "s/()()/\\2\\1\\2/"})
}

func TestTooMany(t *testing.T) {
	checkWrong(t, []wrong{
		{pees(41), api.ErrMany, 80}, {pees(40) + "1 ! p", api.ErrMany, 84}, {pees(40) + ":a", api.ErrMany, 80}, {pees(40) + "{", api.ErrMany, 80}, {"{" + pees(40), api.ErrMany, 79}, {"{" + pees(39) + "}a", api.ErrMany, 80}, {strings.Repeat("{}", 41), api.ErrMany, 80},
		{pees(40) + "s", api.ErrMany, 80}, {pees(40) + "y/aa/b/", api.ErrMany, 80}, {":a;" + pees(39) + ":a", api.ErrMany, 81}, {pees(40) + "é", api.ErrForm, 80}, {pees(40) + "1}", api.ErrForm, 81}, {pees(40) + "}", api.ErrForm, 80}, {pees(40) + "1", api.ErrForm, 81}, {pees(40) + "0p", api.ErrRange, 80}, {pees(40) + "/)/p", api.ErrGroup, 81}, {pees(40) + "1:a", api.ErrForm, 81}, {pees(40) + "p p", api.ErrMany, 80},
	})
}

func TestTooDeep(t *testing.T) {
	checkWrong(t, []wrong{
		{"{{{{{{", api.ErrDeep, 5}, {"{{{{{{}}}}}}", api.ErrDeep, 5}, {"{ {p;{\n{;{1!{k", api.ErrDeep, 12}, {"{{{{{}{{", api.ErrDeep, 7}, {pees(35) + "{{{{{{", api.ErrMany, 75}, {pees(34) + "{{{{{{", api.ErrDeep, 73}, {"{{{{{0{", api.ErrRange, 5},
	})
}

func TestLabels(t *testing.T) {
	checkWrong(t, []wrong{
		{":a;:a", api.ErrLabel, 3}, {":a;:ab;:a", api.ErrLabel, 7}, {":a;{p;:a}", api.ErrLabel, 6}, {":a;:a1", api.ErrLabel, 3}, {":a;:a b", api.ErrLabel, 3}, {":a\n :a", api.ErrLabel, 4}, {"b x;:a;:a", api.ErrLabel, 7},
		{"b x", api.ErrLabel, 0}, {"tx", api.ErrLabel, 0}, {"1!b x", api.ErrLabel, 2}, {"/é/t x", api.ErrLabel, 4}, {":a;b ab", api.ErrLabel, 3}, {":ab;b a", api.ErrLabel, 4}, {"b a;b b;:a", api.ErrLabel, 4}, {"{b x}", api.ErrLabel, 1},
		{"b x;k", api.ErrForm, 4}, {"b x;{", api.ErrForm, 5}, {"b x;0p", api.ErrRange, 4},
	})
}

func TestFirstMissingLabelHasNoLuck(t *testing.T) {
	script := ":ok;b zz;t yy;b xx;t ww;b vv;b uu;b ok;b zz;t aa;b bb;b cc;b dd"
	for range 200 {
		checkWrong(t, []wrong{{script, api.ErrLabel, 4}})
	}
}

func TestFirstThatShowsIsTold(t *testing.T) {
	checkWrong(t, []wrong{
		{"0p;k", api.ErrRange, 0}, {"k;0p", api.ErrForm, 0}, {"p p;0p", api.ErrForm, 2}, {"s/[b-a]\n", api.ErrRange, 3}, {"s/(a/\\1\n", api.ErrGroup, 2}, {"/(" + strings.Repeat("a", 30) + "/k", api.ErrRange, 1}, {"/" + strings.Repeat("a", 31) + ")/p", api.ErrGroup, 32}, {"/" + strings.Repeat("a", 31) + "\n/p", api.ErrForm, 32}, {"s/" + strings.Repeat("a", 31) + "/\\1/", api.ErrRange, 2}, {"s/a/\\1\\0/", api.ErrGroup, 4}, {"s/a/\\0\\1/", api.ErrForm, 5}, {"/((((((((((/k", api.ErrGroup, 10}, {"/$(/p", api.ErrForm, 2}, {"()p", api.ErrForm, 0},
	})
}
