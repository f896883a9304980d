package adze_test

import (
	"strings"
	"testing"

	"adze/adze"
	"adze/api"
)

func parsed(t *testing.T, script string) *adze.Script {
	t.Helper()
	s, err, at := adze.Parse(script)
	if err != api.OK {
		t.Fatalf("Parse(%q) = %d, %d", script, err, at)
	}
	return s
}

// edited is what Edit puts out of an input, and what of it quietly.
type edited struct{ script, input, out, quiet string }

func checkEdits(t *testing.T, rows []edited) {
	t.Helper()
	for _, c := range rows {
		s := parsed(t, c.script)
		if got := edit(s, c.input, false); got != (answer{c.out, api.OK}) {
			t.Errorf("P4: %q of %q: %q, %d, want %q", c.script, c.input, got.out, got.err, c.out)
		}
		if got := edit(s, c.input, true); got != (answer{c.quiet, api.OK}) {
			t.Errorf("P4: %q of %q, quiet: %q, %d, want %q", c.script, c.input, got.out, got.err, c.quiet)
		}
	}
}

func TestExamples(t *testing.T) {
	checkEdits(t, []edited{
		{"s/a/b/", "banana", "bbnana\n", ""}, {"s/a/b/2", "banana", "banbna\n", ""}, {"s/a*/x/g", "baac", "xbxcx\n", ""}, {"s/(.)(.)/\\2\\1/g", "abcd", "badc\n", ""}, {"y/abc/xyz/", "aabbcc", "xxyyzz\n", ""},
		{"1!G;h;$!d", "a\nb\nc", "c\nb\na\n", ""}, {"$!N;P;D", "a\nb\n\nc\n", "a\nb\n\nc\n", "a\nb\n\nc\n"}, {":a;$!{N;b a};s/\\n/ /g", "a\nb\nc\n", "a b c\n", ""},
		{"p", "x\ny", "x\nx\ny\ny\n", "x\ny\n"}, {"2q", "a\nb\nc\nd\n", "a\nb\n", ""},
	})
}

func TestLines(t *testing.T) {
	checkEdits(t, []edited{
		{"", "", "", ""}, {"p;i x", "", "", ""}, {"", "\n", "\n", ""}, {"=", "\n", "1\n\n", "1\n"}, {"", "a", "a\n", ""}, {"", "a\n", "a\n", ""}, {"=", "a\nb", "1\na\n2\nb\n", "1\n2\n"}, {"=", "a\nb\n", "1\na\n2\nb\n", "1\n2\n"}, {"=", "a\n\n", "1\na\n2\n\n", "1\n2\n"}, {"=", "\n\na", "1\n\n2\n\n3\na\n", "1\n2\n3\n"},
		{"$p", "a\nb", "a\nb\nb\n", "b\n"}, {"$p", "a\nb\n", "a\nb\nb\n", "b\n"}, {"$p", "a\nb\n\n", "a\nb\n\n\n", "\n"}, {"$=", "\n", "1\n\n", "1\n"},
		{"s/$/|/", "a\r\n\tb \n\x00\n", "a\r|\n\tb |\n\x00|\n", ""}, {"s/.$/|/", "é€\uFFFD\n", "é€|\n", ""}, {"s/./x/g", "é\u2028😀", "xxx\n", ""},
	})
}

func TestOneAddress(t *testing.T) {
	checkEdits(t, []edited{
		{"1p", "a\nb\n", "a\na\nb\n", "a\n"}, {"2p", "a\nb\n", "a\nb\nb\n", "b\n"}, {"3p", "a\nb\n", "a\nb\n", ""}, {"0002p", "a\nb\n", "a\nb\nb\n", "b\n"},
		{"$d", "a\nb\nc\n", "a\nb\n", ""}, {"$d", "a", "", ""}, {"/b/d", "abc\nx\nb\n", "x\n", ""}, {"/^b$/d", "abc\nx\nb\n", "abc\nx\n", ""}, {"//p", "\na\n", "\n\na\na\n", "\na\n"}, {"/^$/d", "a\n\nb\n", "a\nb\n", ""},
		{"s/a/x/;/a/d;/x/p", "a\nb\n", "x\nx\nb\n", "x\n"}, {"N;/a\\nb/p", "a\nb\n", "a\nb\na\nb\n", "a\nb\n"},
	})
}

func TestNotMeant(t *testing.T) {
	checkEdits(t, []edited{
		{"!p", "a\nb\n", "a\nb\n", ""}, {"!{p};!d", "a\n", "a\n", ""}, {"1!p", "a\nb\nc\n", "a\nb\nb\nc\nc\n", "b\nc\n"}, {"$!d", "a\nb\n", "b\n", ""}, {"/a/!d", "xa\nb\na\n", "xa\na\n", ""}, {"2,3!d", "a\nb\nc\nd\n", "b\nc\n", ""}, {"/b/,/c/!d", "a\nb\nx\nc\nd\nb\n", "b\nx\nc\nb\n", ""}, {"3,1!d", "a\nb\nc\nd\n", "c\n", ""}, {"2 ! s/$/!/", "a\nb\nc\n", "a!\nb\nc!\n", ""},
	})
}

func TestTwoAddresses(t *testing.T) {
	checkEdits(t, []edited{
		{"2,3p", "a\nb\nc\nd\n", "a\nb\nb\nc\nc\nd\n", "b\nc\n"}, {"1,$p", "a\nb\n", "a\na\nb\nb\n", "a\nb\n"}, {"2,9999d", "a\nb\nc\n", "a\n", ""},
		// Closed at once: the second is a number not above the line's.
		{"2,2d", "a\nb\nc\n", "a\nc\n", ""}, {"3,1d", "a\nb\nc\nd\n", "a\nb\nd\n", ""}, {"/b/,2d", "b\nx\nb\nc\nb\nd\n", "c\nd\n", ""}, {"$,1d", "a\nb\n", "a\n", ""},
		// A pattern or `$` is not looked for where the command opens.
		{"/b/,/b/d", "a\nb\nx\nb\nc\nb\n", "a\nc\n", ""}, {"1,/a/d", "a\nb\na\nc\n", "c\n", ""}, {"$,/x/p", "a\nb\n", "a\nb\nb\n", "b\n"},
		// Opens again.
		{"/b/,/d/d", "a\nb\nc\nd\ne\nb\nf\nd\ng\n", "a\ne\ng\n", ""}, {"/b/,/d/d", "b\nd\nb\nd\nx\n", "x\n", ""}, {"/b/,3d", "b\na\na\nb\na\nb\n", "a\n", ""},
		// Never closed.
		{"/b/,/x/d", "a\nb\nc\nb\n", "a\n", ""}, {"/b/,9d", "a\nb\nc\nb\n", "a\n", ""},
		// Never open.
		{"5,/a/d", "a\nb\na\n", "a\nb\na\n", ""}, {"/x/,$d", "a\nb\n", "a\nb\n", ""}, {"/a/,$!d", "x\na\ny\n", "a\ny\n", ""},
		// Each command is open by itself.
		{"1,2s/$/1/;2,3s/$/2/", "a\nb\nc\nd\n", "a1\nb12\nc2\nd\n", ""}, {"/a/,/c/{/b/,/d/s/$/!/}", "a\nb\nc\nd\na\nx\n", "a\nb!\nc!\nd\na!\nx!\n", ""},
	})
}

func TestOpenWhereLinesAreSkipped(t *testing.T) {
	checkEdits(t, []edited{
		// The number has been passed by when the open command is come to again: it means that line yet.
		{"1,2s/$/!/;n;n;n", "a\nb\nc\nd\ne\nf\ng\nh\ni\n", "a!\nb\nc\nd\ne!\nf\ng\nh\ni\n", ""}, {"1,2!s/$/!/;N;N", "a\nb\nc\nd\ne\nf\ng\n", "a\nb\nc\nd\ne\nf\ng!\n", ""},
		// What is not come to neither opens nor closes.
		{"1!{1,3s/$/!/}", "a\nb\nc\n", "a\nb\nc\n", ""}, {"3!{2,3s/$/!/}", "a\nb\nc\nd\ne\n", "a\nb!\nc\nd!\ne\n", ""}, {"/b/b;/a/,/b/s/$/!/", "a\nb\nc\n", "a!\nb\nc!\n", ""},
		// A space counts as it is when the command is come to.
		{"s/b/x/;/a/,/b/s/$/!/", "a\nb\nc\n", "a!\nx!\nc!\n", ""}, {"N;/b$/,/c/s/$/!/", "a\nb\nc\nd\ne\nf\n", "a\nb!\nc\nd!\ne\nf\n", ""},
	})
}

func TestOpenWithinOneLine(t *testing.T) {
	checkEdits(t, []edited{
		// On the last line: opens, is closed by `$`, and is not meant any more.
		{":a;/x/,$=;s/^x/y/;ta;s/^y/z/;ta", "x\n", "1\n1\nz\n", "1\n1\n"},
		{":a;/x/,/z/=;s/^x/y/;ta;s/^y/z/;ta;s/^z/w/;ta", "x\n", "1\n1\n1\nw\n", "1\n1\n1\n"},
		// Closed by the third, opened again by the fourth, and open yet for the next line.
		{":a;1,/z/=;s/^x/y/;ta;s/^y/z/;ta;s/^z/w/;ta;s/^w/v/;ta", "x\nq\n", "1\n1\n1\n1\n1\nv\n2\nq\n", "1\n1\n1\n1\n1\n2\n"},
		{":a;1,3=;s/^x/y/;ta", "x\nq\nr\ns\n", "1\n1\ny\n2\nq\n3\nr\ns\n", "1\n1\n2\n3\n"},
		{":a;1,1=;s/^x/y/;ta", "x\nq\n", "1\n1\ny\nq\n", "1\n1\n"},
	})
}

func TestBlocks(t *testing.T) {
	checkEdits(t, []edited{
		{"{}", "a\n", "a\n", ""}, {"{p;p}", "a\n", "a\na\na\n", "a\na\n"}, {"2{p;s/b/x/};p", "a\nb\n", "a\na\nb\nx\nx\n", "a\nb\nx\n"}, {"2!{s/$/1/};s/$/2/", "a\nb\n", "a12\nb2\n", ""}, {"1,2{2,3{p}}", "a\nb\nc\n", "a\nb\nb\nc\n", "b\n"}, {"2{{{{{s/b/x/}}}}}", "a\nb\n", "a\nx\n", ""}, {"/a/{s/a/b/;/a/d;s/b/c/}", "a\nb\n", "c\nb\n", ""}, {"1{};2{}p", "a\nb\n", "a\na\nb\nb\n", "a\nb\n"}, {"2{d};1{2{d}};p", "a\nb\nc\n", "a\na\nc\nc\n", "a\nc\n"},
		{"/a/{b x};s/$/1/;{:x;s/$/2/}", "a\nb\n", "a2\nb12\n", ""},
	})
}

func TestTexts(t *testing.T) {
	checkEdits(t, []edited{
		{"a x", "a\nb\n", "a\nx\nb\nx\n", "x\nx\n"}, {"a x\na  y ", "a\n", "a\nx\n y \n", "x\n y \n"}, {"$a end", "a\nb", "a\nb\nend\n", "end\n"}, {"a", "a\n", "a\n\n", "\n"}, {"a ;}\\n{é", "a\n", "a\n;}\\n{é\n", ";}\\n{é\n"},
		{"i x", "a\nb\n", "x\na\nx\nb\n", "x\nx\n"}, {"i\np", "a\n", "\na\na\n", "\na\n"}, {"i x\ni y", "a\n", "x\ny\na\n", "x\ny\n"}, {"a x\ni y", "a\n", "y\na\nx\n", "y\nx\n"},
		{"c x", "a\nb\n", "x\nx\n", "x\nx\n"}, {"1c x\np", "a\nb\n", "x\nb\nb\n", "x\nb\n"}, {"2c x", "a\nb\nc\n", "a\nx\nc\n", "x\n"}, {"$c x", "a\nb", "a\nx\n", "x\n"}, {"1,2c x", "a\nb\nc\n", "x\nx\nc\n", "x\nx\n"}, {"1!c", "a\nb\n", "a\n\n", "\n"}, {"a x\nc y\na z", "a\nb\n", "y\nx\ny\nx\n", "y\nx\ny\nx\n"}, {"N;c x", "a\nb\nc\n", "x\nc\n", "x\n"},
	})
}

func TestQueue(t *testing.T) {
	checkEdits(t, []edited{
		{"1a x\nd", "a\nb\n", "x\n", "x\n"}, {"1a x\nq", "a\nb\n", "a\nx\n", "x\n"}, {"1a x\nn\np", "a\nb\n", "a\nx\nb\nb\n", "x\nb\n"}, {"1a x\nN\np", "a\nb\n", "x\na\nb\na\nb\n", "x\na\nb\n"}, {"a x\n$n", "a\n", "a\nx\n", "x\n"}, {"a x\n$N", "a\n", "a\nx\n", "x\n"}, {"a x\ns/-/\\n/\nD", "a-b-c\n", "x\nx\nx\n", "x\nx\nx\n"}, {"a x\ns/-/\\n/\nP;D", "a-b\n", "a\nx\nb\nx\n", "a\nx\nb\nx\n"}, {"a x\nD", "a\nb\n", "x\nx\n", "x\nx\n"}, {"1{a x\nb\n};a y", "a\nb\n", "a\nx\nb\ny\n", "x\ny\n"},
		// Told once.
		{"1a x\nn;p", "a\nb\nc\n", "a\nx\nb\nb\nc\n", "x\nb\n"}, {"1a x\nN;N;P", "a\nb\nc\n", "x\na\na\nb\nc\n", "x\na\n"},
	})
}

func TestDrop(t *testing.T) {
	checkEdits(t, []edited{
		{"d", "a\nb\n", "", ""}, {"d;p", "a\n", "", ""}, {"1d;p", "a\nb\n", "b\nb\n", "b\n"}, {"N;d", "a\nb\nc\n", "c\n", ""},
		{"D", "a\nb\n", "", ""}, {"D;p", "a\n", "", ""}, {"N;D", "a\nb\nc\n", "c\n", ""}, {"N;P;D", "a\nb\nc\n", "a\nb\nc\n", "a\nb\n"}, {"s/-/\\n/;P;D", "a-b-c\nd\n", "a\nb\nc\nd\n", "a\nb\nc\nd\n"}, {"=;s/-/\\n/;D", "a-b\nc\n", "1\n1\n2\n", "1\n1\n2\n"},
		// What is left may be empty, and begins anew nonetheless.
		{"/^$/!s/$/\\n/;p;D", "a\n", "a\n\n\n", "a\n\n\n"}, {"s/a/\\n\\nb/;P;D", "a\n", "\n\nb\n", "\n\nb\n"},
		// No line is read: a `t` may go yet, and what is open stays so.
		{"/x/ta;s/a/\\nx/;D;:a;s/$/!/", "a\n", "x!\n", ""}, {"1,/x/s/a/\\nx/;/x$/!d;D", "a\nb\n", "", ""},
	})
}

func TestHold(t *testing.T) {
	checkEdits(t, []edited{
		{"g", "a\n", "\n", ""}, {"h;s/a/b/;g", "a\n", "a\n", ""}, {"1h;2g", "a\nb\nc\n", "a\na\nc\n", ""}, {"G", "a\nb\n", "a\n\nb\n\n", ""}, {"1h;G", "a\nb\n", "a\na\nb\na\n", ""}, {"G;G", "a\n", "a\n\n\n", ""},
		{"H;g", "a\nb\n", "\na\n\na\nb\n", ""}, {"h;H;x", "a\n", "a\na\n", ""}, {"x", "a\nb\nc\n", "\na\nb\n", ""}, {"x;x", "a\n", "a\n", ""}, {"x;p;x", "a\nb\n", "\na\n\nb\n", "\n\n"}, {"h;x;s/a/b/;x", "a\n", "a\n", ""}, {"1!G;h;$!d", "a\nb\nc\n", "c\nb\na\n", ""}, {"H;$!d;x;s/\\n/,/g", "a\nb\n", ",a,b\n", ""}, {"1{h;d};x", "a\nb\nc\n", "a\nb\n", ""},
		// Space and hold share nothing.
		{"h;G;y/a/b/;s/$/!/;x", "aa\n", "aa\n", ""}, {"h;y/a/b/;G", "a\n", "b\na\n", ""}, {"g;y/a/b/;1s/^/a/;h;y/a/c/;G", "a\na\n", "c\na\nb\nb\n", ""}, {"h;s/a/x\\na/;D", "b\n", "", ""},
	})
}

func TestNextLine(t *testing.T) {
	checkEdits(t, []edited{
		{"n;d", "a\nb\nc\n", "a\nc\n", ""}, {"n;p", "a\nb\nc\nd\n", "a\nb\nb\nc\nd\nd\n", "b\nd\n"}, {"n;n;s/$/!/", "a\nb\nc\nd\n", "a\nb\nc!\nd\n", ""}, {"n;=", "a\nb\n", "a\n2\nb\n", "2\n"}, {"$!n;p", "a\nb\nc\n", "a\nb\nb\nc\nc\n", "b\nc\n"}, {"p;n;p", "a\n", "a\na\n", "a\n"}, {"n;i x", "a\n", "a\n", ""}, {"s/a/x/;n;s/b/y/", "a\nb\n", "x\ny\n", ""},
		{"N;s/\\n/-/", "a\nb\nc\n", "a-b\nc\n", ""}, {"N;N;s/\\n/-/g", "a\nb\nc\nd\n", "a-b-c\nd\n", ""}, {"N;p", "a\n", "a\n", ""}, {"N;=", "a\nb\n", "2\na\nb\n", "2\n"}, {"N;$p", "a\nb\n", "a\nb\na\nb\n", "a\nb\n"}, {"$!N;p", "a\n", "a\na\n", "a\n"}, {"N;N;p", "a\nb\n", "a\nb\n", ""}, {"s/a/x/;N;s/^/>/", "a\nb\n", ">x\nb\n", ""},
	})
}

func TestPrints(t *testing.T) {
	checkEdits(t, []edited{
		{"p;p", "a\n", "a\na\na\n", "a\na\n"}, {"p;s/a/b/;p", "a\n", "a\nb\nb\n", "a\nb\n"}, {"N;p", "a\nb\n", "a\nb\na\nb\n", "a\nb\n"}, {"P", "a\n", "a\na\n", "a\n"}, {"N;P", "a\nb\n", "a\na\nb\n", "a\n"}, {"N;N;P", "a\nb\nc\n", "a\na\nb\nc\n", "a\n"}, {"s/^/\\n/;P", "a\n", "\n\na\n", "\n"}, {"P;p", "\n", "\n\n\n", "\n\n"},
	})
}

func TestQuit(t *testing.T) {
	checkEdits(t, []edited{
		{"q", "a\nb\n", "a\n", ""}, {"q;p", "a\nb\n", "a\n", ""}, {"2q", "a\nb\nc\n", "a\nb\n", ""}, {"9q", "a\nb\n", "a\nb\n", ""}, {"/b/{s/b/x/;q};p", "a\nb\nc\n", "a\na\nx\n", "a\n"}, {"$q;=", "a\nb\n", "1\na\nb\n", "1\n"}, {"n;q", "a\nb\nc\n", "a\nb\n", ""}, {"q", "a\n\nb", "a\n", ""},
	})
}

func TestBranches(t *testing.T) {
	checkEdits(t, []edited{
		{"b;d", "a\nb\n", "a\nb\n", ""}, {"1b;d", "a\nb\n", "a\n", ""}, {"b x;d;:x;p", "a\n", "a\na\n", "a\n"}, {"/a/bx;s/$/!/;:x", "a\nb\n", "a\nb!\n", ""}, {":a;/^...$/b;s/^/-/;ba", "x\n", "--x\n", ""}, {":a;:b;:c;p", "a\n", "a\na\n", "a\n"}, {"bb;:a;s/$/1/;b;:b;s/$/2/;ba", "x\n", "x21\n", ""}, {"{b y;:x;s/$/1/};{b;:y;s/$/2/;b x}", "z\n", "z21\n", ""}, {":a;$!{N;ba};s/\\n/ /g", "a\nb\nc\n", "a b c\n", ""}, {":abcdefgh;s/^a//;t abcdefgh", "aab\n", "b\n", ""},
	})
}

func TestGoesIfReplaced(t *testing.T) {
	checkEdits(t, []edited{
		{"t;s/$/!/", "a\n", "a!\n", ""}, {"s/a/b/;t;s/$/!/", "a\nc\n", "b\nc!\n", ""}, {"s/a/a/;t;s/$/!/", "a\n", "a\n", ""}, {"s/a/b/2;t;s/$/!/", "a\naa\n", "a!\nab\n", ""}, {"s/x*//;t;s/$/!/", "a\n", "a\n", ""},
		// A later `s` that replaces nothing takes nothing back.
		{"s/a/b/;s/x/y/;t;s/$/!/", "a\n", "b\n", ""},
		// A `t` that went.
		{"s/a/b/;ta;:a;t;s/$/!/", "a\n", "b!\n", ""}, {"s/a/b/;1!ta;:a;t;s/$/!/", "a\n", "b\n", ""}, {"s/a/b/;ta;:a;s/b/c/;t;s/$/!/", "a\n", "c\n", ""}, {":a;s/^(-*)x/\\1--/;ta", "xxy\n", "----y\n", ""},
		// Lines that were read: by a cycle, by `n`, by `N`.
		{"s/a/b/;b;:x;s/$/!/", "a\nc\n", "b\nc\n", ""}, {"2t;s/a/b/;2s/$/!/", "a\nc\n", "b\nc!\n", ""}, {"s/a/b/;n;t;s/$/!/", "a\nc\n", "b\nc!\n", ""}, {"s/a/b/;N;t;s/$/!/", "a\nc\n", "b\nc!\n", ""}, {"n;s/c/d/;t;s/$/!/", "a\nc\n", "a\nd\n", ""},
		// What reads no line: `D` (see there), `g`, `x`.
		{"s/a/b/;g;t;s/$/!/", "a\n", "\n", ""}, {"s/a/b/;x;t;s/$/!/", "a\n", "\n", ""}, {"y/a/b/;t;s/$/!/", "a\n", "b!\n", ""},
	})
}

func TestFlags(t *testing.T) {
	checkEdits(t, []edited{
		{"s/a/b/", "banana\n", "bbnana\n", ""}, {"s/a/b/g", "banana\n", "bbnbnb\n", ""}, {"s/a/b/p", "banana\nx\n", "bbnana\nbbnana\nx\n", "bbnana\n"}, {"s/a/b/1", "banana\n", "bbnana\n", ""}, {"s/a/b/2", "banana\n", "banbna\n", ""}, {"s/a/b/3", "banana\n", "bananb\n", ""}, {"s/a/b/4", "banana\n", "banana\n", ""}, {"s/a/b/9999", "banana\n", "banana\n", ""}, {"s/a/b/03", "banana\n", "bananb\n", ""},
		{"s/a/b/gp", "banana\n", "bbnbnb\nbbnbnb\n", "bbnbnb\n"}, {"s/a/b/pg", "banana\n", "bbnbnb\nbbnbnb\n", "bbnbnb\n"}, {"s/a/b/2g", "banana\n", "banbnb\n", ""}, {"s/a/b/g2", "banana\n", "banbnb\n", ""}, {"s/a/b/1g", "banana\n", "bbnbnb\n", ""}, {"s/a/b/4g", "banana\n", "banana\n", ""}, {"s/a/b/2p", "banana\n", "banbna\nbanbna\n", "banbna\n"}, {"s/a/b/p2", "banana\n", "banbna\nbanbna\n", "banbna\n"}, {"s/a/b/4p", "banana\n", "banana\n", ""}, {"s/a/b/4gp", "banana\n", "banana\n", ""},
		{"s/a/b/2gp", "banana\n", "banbnb\nbanbnb\n", "banbnb\n"}, {"s/a/b/p3g", "banana\n", "bananb\nbananb\n", "bananb\n"}, {"s/x/y/p;s/a/a/p", "a\n", "a\na\n", "a\n"}, {"s/a/b/p;s/b/c/p", "a\n", "b\nc\nc\n", "b\nc\n"},
	})
}

func TestEmptyMatches(t *testing.T) {
	checkEdits(t, []edited{
		{"s/a*/x/", "baac\n", "xbaac\n", ""}, {"s/a*/x/2", "baac\n", "bxc\n", ""}, {"s/a*/x/3", "baac\n", "baacx\n", ""}, {"s/a*/x/4", "baac\n", "baac\n", ""}, {"s/a*/x/2g", "baac\n", "bxcx\n", ""}, {"s/a*/x/g", "aa\n", "x\n", ""}, {"s/a*/x/2", "aa\n", "aa\n", ""}, {"s/a*/x/g", "\n", "x\n", ""}, {"s/b*/x/2", "abc\n", "axc\n", ""}, {"s//x/g", "ab\n", "xaxbx\n", ""}, {"s//x/", "ab\n", "xab\n", ""}, {"s//x/2", "ab\n", "axb\n", ""}, {"s//x/4", "ab\n", "ab\n", ""}, {"s/()/x\\1/g", "éa\n", "xéxax\n", ""},
		{"s/^/x/g", "ab\n", "xab\n", ""}, {"s/$/x/g", "ab\n", "abx\n", ""}, {"s/^$/x/g", "\na\n", "x\na\n", ""}, {"s/b*$/x/g", "abb\n", "ax\n", ""}, {"s/b?/x/g", "abbc\n", "xaxxcx\n", ""}, {"s/^a*/x/g", "aab\n", "xb\n", ""}, {"s/^a/x/g", "aab\n", "xab\n", ""}, {"s/^/x/2", "ab\n", "ab\n", ""}, {"s/a*/(&)/g", "baaac\n", "()b(aaa)c()\n", ""}, {"N;s/^/x/g;s/$/y/g", "a\nb\n", "xa\nby\n", ""},
	})
}

func TestReplacements(t *testing.T) {
	checkEdits(t, []edited{
		{"s/b//", "abc\n", "ac\n", ""}, {"s/b/&&/", "abc\n", "abbc\n", ""}, {"s/b/[&\\&]/", "abc\n", "a[b&]c\n", ""}, {"s/a/\\\\\\//", "a\n", "\\/\n", ""}, {"s/-/\\n/", "a-b\n", "a\nb\n", ""}, {"s/a/é;}/", "a\n", "é;}\n", ""}, {"s/a/b/;s/b/a/g", "ab\n", "aa\n", ""}, {"s/a/aa/g", "aba\n", "aabaa\n", ""},
		{"s/(.)(.)/\\2\\1/g", "abcde\n", "badce\n", ""}, {"s/(a(b(c)))(d)/\\4\\3\\2\\1/", "abcd\n", "dcbcabc\n", ""}, {"s/(a*)(a+)(a?)/[\\1|\\2|\\3]/", "aaa\n", "[aa|a|]\n", ""}, {"s/(.*)-(.*)/\\2-\\1/", "a-b-c\n", "c-a-b\n", ""}, {"s/(a)/\\10/", "a\n", "a0\n", ""}, {"s/(.)(.)(.)(.)(.)(.)(.)(.)(.)/\\9\\8\\7\\6\\5\\4\\3\\2\\1/", "123456789x\n", "987654321x\n", ""}, {"s/(b*)c/<\\1>/g", "cbcabbc\n", "<><b>a<bb>\n", ""}, {"N;s/(.*)\\n(.*)/\\2\\n\\1/", "a\nb\n", "b\na\n", ""},
	})
}

func TestExchanges(t *testing.T) {
	checkEdits(t, []edited{
		{"y/abc/xyz/", "aabbcc\n", "xxyyzz\n", ""}, {"y/ab/ba/", "abc\n", "bac\n", ""}, {"y///", "abc\n", "abc\n", ""}, {"y/aé€/€aé/", "aé€x\n", "€aéx\n", ""}, {"y/ab\\/\\\\/ba\\\\\\//", "ab/\\\n", "ba\\/\n", ""}, {"N;y/\\n/,/", "a\nb\n", "a,b\n", ""}, {"y/,/\\n/;P;D", "a,b\n", "a\nb\n", "a\nb\n"}, {"y/abc/ccc/", "abcd\n", "cccd\n", ""}, {"2y/a/b/", "a\na\n", "a\nb\n", ""}, {"y/n/m/;N;y/n/o/", "n\nn\n", "m\no\n", ""},
	})
}

func TestAnswersAreWhole(t *testing.T) {
	input := strings.Repeat("a\n", 1500)
	if got := edit(parsed(t, ""), input, false); got != (answer{input, api.OK}) {
		t.Errorf("P4: %d bytes of 3000, %d", len(got.out), got.err)
	}
}
