package lexer_test

import (
	"regexp"
	"slices"
	"strconv"
	"strings"
	"testing"

	"flowquery/api"
	"flowquery/lexer"
)

const (
	letters = "abcdefghijklmnopqrstuvwxyzABCDEFGHIJKLMNOPQRSTUVWXYZ"
	digits  = "0123456789"
)

var keywords = []string{"func", "block", "end", "use", "call", "source", "sink", "sanitize", "goto", "branch", "return"}

// result is what Scan returns.
type result struct {
	tokens    []api.Token
	line, col int
	err       api.Errno
}

func scan(text string) result {
	tokens, line, col, err := lexer.Scan(text)
	return result{tokens, line, col, err}
}

func failure(line, col int, err api.Errno) result { return result{nil, line, col, err} }

// tokens is a result that is written as tokens with their positions: "x 1,1 = 1,3 . 1,4" are a word, an equals sign and
// the end of a line.
func tokens(t *testing.T, list string) result {
	t.Helper()
	var r result
	fields := strings.Fields(list)
	for i := 0; i < len(fields); i += 2 {
		token := api.Token{Kind: 1, Text: fields[i]}
		switch token.Text {
		case "=":
			token.Kind = 2
		case ".":
			token.Kind, token.Text = 3, ""
		}
		line, col, _ := strings.Cut(fields[i+1], ",")
		var wrongLine, wrongCol error
		token.Line, wrongLine = strconv.Atoi(line)
		token.Col, wrongCol = strconv.Atoi(col)
		if wrongLine != nil || wrongCol != nil {
			t.Fatalf("no position: %s", fields[i+1])
		}
		r.tokens = append(r.tokens, token)
	}
	return r
}

func expect(t *testing.T, text string, want result) {
	t.Helper()
	got := scan(text)
	if got.line != want.line || got.col != want.col || got.err != want.err || !slices.Equal(got.tokens, want.tokens) {
		if len(text) > 100 {
			text = text[:50] + " .. " + text[len(text)-50:]
		}
		t.Errorf("Scan(%q) = %v, want %v", text, got, want)
	}
}

func position(text string, at int) (int, int) {
	return 1 + strings.Count(text[:at], "\n"), at - strings.LastIndexByte(text[:at], '\n')
}

var (
	piece = regexp.MustCompile(`\A(?:[ \t;\n]|#[^\n]*|=|[A-Za-z0-9_]+)`)
	ends  = regexp.MustCompile(`\A[ \t]*([;\n#]|\z)`)
	names = regexp.MustCompile(`\A[A-Za-z][A-Za-z0-9_]{0,15}\z`)
)

// reference is Scan written in another way: each token looks ahead for the end of its line.
func reference(text string) result {
	if len(text) > 4096 {
		return failure(0, 0, api.ErrFull)
	}
	var r result
	for at := 0; at < len(text); {
		line, col := position(text, at)
		found := piece.FindString(text[at:])
		kind := 1
		switch {
		case found == "" || strings.Contains(digits, found[:1]):
			return failure(line, col, api.ErrSyntax)
		case strings.Contains(" \t;\n#", found[:1]):
			kind = 0
		case found == "=":
			kind = 2
		case len(found) > 16:
			return failure(line, col, api.ErrFull)
		}
		at += len(found)
		if kind == 0 {
			continue
		}
		r.tokens = append(r.tokens, api.Token{Kind: kind, Text: found, Line: line, Col: col})
		if end := ends.FindStringSubmatchIndex(text[at:]); end != nil {
			line, col := position(text, at+end[2])
			r.tokens = append(r.tokens, api.Token{Kind: 3, Line: line, Col: col})
		}
	}
	return r
}

func isName(s string) bool { return names.MatchString(s) && !slices.Contains(keywords, s) }

// each calls check for all texts of at most most bytes of an alphabet.
func each(alphabet string, most int, check func(text string)) {
	check("")
	if most == 0 {
		return
	}
	for i := range len(alphabet) {
		each(alphabet, most-1, func(text string) {
			check(alphabet[i:i+1] + text)
		})
	}
}

// P4.1: the examples of the chapter.
func TestExamples(t *testing.T) {
	expect(t, "x = y ; return", tokens(t, "x 1,1 = 1,3 y 1,5 . 1,7 return 1,9 . 1,15"))
	expect(t, "x = 1y", failure(1, 5, api.ErrSyntax))
	expect(t, "\n\n# nothing\n#\n\n   # x = y\n\t\n#", result{})
}

// P4.1: ordinary program texts.
func TestPrograms(t *testing.T) {
	expect(t, "func m; block b; source x; y = x; return; end", tokens(t, `func 1,1 m 1,6 . 1,7 block 1,9 b 1,15 . 1,16 source 1,18 x 1,25 . 1,26
		y 1,28 = 1,30 x 1,32 . 1,33 return 1,35 . 1,41 end 1,43 . 1,46`))
	expect(t, "func m\nblock b\n  x = y z # both\n\n  branch x b c\nend\n", tokens(t, `func 1,1 m 1,6 . 1,7 block 2,1 b 2,7 . 2,8
		x 3,3 = 3,5 y 3,7 z 3,9 . 3,11 branch 5,3 x 5,10 b 5,12 c 5,14 . 5,15 end 6,1 . 6,4`))
	expect(t, "# a program\nfunc main # begins here\n\tblock b0; sink x_1 ;sanitize\tx_1\n\n goto b0\nend # ; func", tokens(t, `func 2,1 main 2,6 . 2,11
		block 3,2 b0 3,8 . 3,10 sink 3,12 x_1 3,17 . 3,21 sanitize 3,22 x_1 3,31 . 3,34 goto 5,2 b0 5,7 . 5,9 end 6,1 . 6,5`))
}

// P4.1: the tokens of single lines.
func TestTokens(t *testing.T) {
	for _, c := range [][2]string{
		{"x", "x 1,1 . 1,2"},
		{"x y", "x 1,1 y 1,3 . 1,4"},
		{"x\ty", "x 1,1 y 1,3 . 1,4"},
		{" \t x \t \t yy", "x 1,4 yy 1,10 . 1,12"},
		{"=", "= 1,1 . 1,2"},
		{"==", "= 1,1 = 1,2 . 1,3"},
		{"x=y", "x 1,1 = 1,2 y 1,3 . 1,4"},
		{"=x= y", "= 1,1 x 1,2 = 1,3 y 1,5 . 1,6"},
		{"_", "_ 1,1 . 1,2"},
		{"_1", "_1 1,1 . 1,3"},
		{"__x9_ X", "__x9_ 1,1 X 1,7 . 1,8"},
		{"aZ09_z = zA", "aZ09_z 1,1 = 1,8 zA 1,10 . 1,12"},
		{"end func", "end 1,1 func 1,5 . 1,9"},
	} {
		expect(t, c[0], tokens(t, c[1]))
	}
}

// P4.1: where a line ends.
func TestEnds(t *testing.T) {
	for _, c := range [][2]string{
		{"x\n", "x 1,1 . 1,2"},
		{"x;", "x 1,1 . 1,2"},
		{"x#", "x 1,1 . 1,2"},
		{"x# y", "x 1,1 . 1,2"},
		{"x \t \n", "x 1,1 . 1,5"},
		{"x \t ;", "x 1,1 . 1,5"},
		{"x \t # y", "x 1,1 . 1,5"},
		{"x \t ", "x 1,1 . 1,5"},
		{"x\n \t ", "x 1,1 . 1,2"},
		{"x;\n", "x 1,1 . 1,2"},
		{"x\n;", "x 1,1 . 1,2"},
		{"x;;;\n\n;", "x 1,1 . 1,2"},
		{"x ; \n ; #", "x 1,1 . 1,3"},
		{"x##", "x 1,1 . 1,2"},
		{"x # a # b\n# c\n#d\n", "x 1,1 . 1,3"},
		{"x # y ; z\n", "x 1,1 . 1,3"},
		{"x # y ; z\nw", "x 1,1 . 1,3 w 2,1 . 2,2"},
		{"x; # y\n ;w", "x 1,1 . 1,2 w 2,3 . 2,4"},
		{"# x ; y", ""},
		{"# x ; y\nz", "z 2,1 . 2,2"},
		{";x", "x 1,2 . 1,3"},
		{"\nx", "x 2,1 . 2,2"},
		{"#\nx", "x 2,1 . 2,2"},
		{"x;y", "x 1,1 . 1,2 y 1,3 . 1,4"},
		{"x\ny", "x 1,1 . 1,2 y 2,1 . 2,2"},
		{"x;;y", "x 1,1 . 1,2 y 1,4 . 1,5"},
		{"x;\ny", "x 1,1 . 1,2 y 2,1 . 2,2"},
		{"x\n\n\ny\n\n", "x 1,1 . 1,2 y 4,1 . 4,2"},
		{"=;=", "= 1,1 . 1,2 = 1,3 . 1,4"},
		{"=#=", "= 1,1 . 1,2"},
	} {
		expect(t, c[0], tokens(t, c[1]))
	}
}

// P4.1: texts without a token.
func TestNoTokens(t *testing.T) {
	for _, text := range []string{
		"", " ", "\t", "\n", ";", "#", ";;;", "\n\n", " ; \t;\n ", "# x = y", "#;x", "#\n#\n", ";#", "; # func m\n\t# \x00\xff\r 1 end;\n;",
	} {
		expect(t, text, result{})
	}
}

// P4.1, P4.2: a column counts bytes, whatever they are; only a line feed begins a line.
func TestPositions(t *testing.T) {
	expect(t, "# \u00e4\u20ac\U0001f600\xff\nx # \u00e4\n\ty", tokens(t, "x 2,1 . 2,3 y 3,2 . 3,3"))
	expect(t, "\t\t\tx", tokens(t, "x 1,4 . 1,5"))
	expect(t, "a;b;c;d", tokens(t, "a 1,1 . 1,2 b 1,3 . 1,4 c 1,5 . 1,6 d 1,7 . 1,8"))
	expect(t, "# a\rb\vc\fd\u2028e\u0085\nx", tokens(t, "x 2,1 . 2,2"))
	expect(t, "# ; ; ;\n;;\n\t; x -", failure(3, 6, api.ErrSyntax))
	expect(t, strings.Repeat("\n", 4095)+"x", tokens(t, "x 4096,1 . 4096,2"))
	expect(t, strings.Repeat(" ", 4095)+"x", tokens(t, "x 1,4096 . 1,4097"))
	expect(t, strings.Repeat(";", 4095)+"-", failure(1, 4096, api.ErrSyntax))
	expect(t, strings.Repeat("\n", 4095)+"-", failure(4096, 1, api.ErrSyntax))
}

// P4.2: the position of an error.
func TestErrors(t *testing.T) {
	long, longer := strings.Repeat("x", 17), strings.Repeat("y_", 100)
	for _, c := range []struct {
		text      string
		line, col int
		err       api.Errno
	}{
		{"1", 1, 1, api.ErrSyntax},
		{"12345", 1, 1, api.ErrSyntax},
		{"1y", 1, 1, api.ErrSyntax},
		{"x = 1y", 1, 5, api.ErrSyntax},
		{"x=0", 1, 3, api.ErrSyntax},
		{"x\n\n  9_z y", 3, 3, api.ErrSyntax},
		{"0" + long, 1, 1, api.ErrSyntax},
		{"a 1" + longer, 1, 3, api.ErrSyntax},
		{long, 1, 1, api.ErrFull},
		{longer, 1, 1, api.ErrFull},
		{"_" + long, 1, 1, api.ErrFull},
		{"a = " + long + " ;", 1, 5, api.ErrFull},
		{"a\n;= " + long + "\n", 2, 4, api.ErrFull},
		{"-", 1, 1, api.ErrSyntax},
		{"x-y", 1, 2, api.ErrSyntax},
		{"x\r\n", 1, 2, api.ErrSyntax},
		{"\r", 1, 1, api.ErrSyntax},
		{"x\n\x00", 2, 1, api.ErrSyntax},
		{"x \u00e4", 1, 3, api.ErrSyntax},
		{"x\u00e4", 1, 2, api.ErrSyntax},
		{"x == y, z", 1, 7, api.ErrSyntax},
		{"# \u00e4 -\n ;; \xff", 2, 5, api.ErrSyntax},
	} {
		expect(t, c.text, failure(c.line, c.col, c.err))
	}
}

// P4.2: of several errors, the first one from left to right is returned.
func TestFirstError(t *testing.T) {
	long := strings.Repeat("x", 17)
	for _, c := range []struct {
		text      string
		line, col int
		err       api.Errno
	}{
		{"- 1y " + long, 1, 1, api.ErrSyntax},
		{"a 1y - " + long, 1, 3, api.ErrSyntax},
		{"a " + long + " - 1y", 1, 3, api.ErrFull},
		{"a " + long + "-", 1, 3, api.ErrFull},
		{"a -" + long, 1, 3, api.ErrSyntax},
		{long + "\n1", 1, 1, api.ErrFull},
		{"1\n" + long, 1, 1, api.ErrSyntax},
		{"a\n1\n" + long, 2, 1, api.ErrSyntax},
		{"a\n" + long + "\n1", 2, 1, api.ErrFull},
		{"# -\n; " + long + "; 1", 2, 3, api.ErrFull},
		{"- -", 1, 1, api.ErrSyntax},
		{long + " " + long + "y", 1, 1, api.ErrFull},
	} {
		expect(t, c.text, failure(c.line, c.col, c.err))
	}
}

// P4.1, P4.2: what each of the 256 bytes is, alone, after a word, before one, on a later line, and in a comment.
func TestBytes(t *testing.T) {
	for i := range 256 {
		b := string([]byte{byte(i)})
		one := func(list string) result { return tokens(t, list) }
		var alone, after, before result
		switch {
		case strings.Contains(letters+"_", b):
			alone, after, before = one(b+" 1,1 . 1,2"), one("x"+b+" 1,1 . 1,3"), one(b+"x 1,1 . 1,3")
		case strings.Contains(digits, b):
			alone, after, before = failure(1, 1, api.ErrSyntax), one("x"+b+" 1,1 . 1,3"), failure(1, 1, api.ErrSyntax)
		case b == "=":
			alone, after, before = one("= 1,1 . 1,2"), one("x 1,1 = 1,2 . 1,3"), one("= 1,1 x 1,2 . 1,3")
		case b == " " || b == "\t":
			alone, after, before = one(""), one("x 1,1 . 1,3"), one("x 1,2 . 1,3")
		case b == ";":
			alone, after, before = one(""), one("x 1,1 . 1,2"), one("x 1,2 . 1,3")
		case b == "\n":
			alone, after, before = one(""), one("x 1,1 . 1,2"), one("x 2,1 . 2,2")
		case b == "#":
			alone, after, before = one(""), one("x 1,1 . 1,2"), one("")
		default:
			alone, after, before = failure(1, 1, api.ErrSyntax), failure(1, 2, api.ErrSyntax), failure(1, 1, api.ErrSyntax)
		}
		expect(t, b, alone)
		expect(t, "x"+b, after)
		expect(t, b+"x", before)
		if alone.err != api.OK {
			expect(t, "y\n ;\t"+b, failure(2, 4, api.ErrSyntax))
		}
		if b != "\n" {
			expect(t, "x #"+b+"\ny", one("x 1,1 . 1,3 y 2,1 . 2,2"))
		}
	}
}

// P4.2: texts of MaxText bytes, and of more.
func TestMaxText(t *testing.T) {
	for _, part := range []string{" ", "\n", ";", "#", "\t", "=", "x = y\n", "x;", "# a comment\n", "sanitize abcdefgh", "-", "1", "\x00", "\xff", "x"} {
		whole := strings.Repeat(part, 4096)
		for _, n := range []int{4095, 4096} {
			if got := scan(whole[:n]); got.err == api.ErrFull && got.line == 0 {
				t.Errorf("%d bytes of %q are too many", n, part)
			}
			expect(t, whole[:n], reference(whole[:n]))
		}
		for _, n := range []int{4097, 4098, 5000} {
			expect(t, (whole + whole)[:n], failure(0, 0, api.ErrFull))
		}
	}
	expect(t, strings.Repeat(" ", 4096-2)+"x\n", tokens(t, "x 1,4095 . 1,4096"))
	expect(t, strings.Repeat(" ", 4096-1)+"x\n", failure(0, 0, api.ErrFull))
	expect(t, "x = y;"+strings.Repeat(" ", 4096-6), tokens(t, "x 1,1 = 1,3 y 1,5 . 1,6"))
	expect(t, "- 1 "+strings.Repeat("x", 20)+strings.Repeat(" ", 1<<20), failure(0, 0, api.ErrFull))
	if got := scan(strings.Repeat("=", 4096)); len(got.tokens) != 4097 {
		t.Errorf("4096 equals signs have %d tokens", len(got.tokens))
	}
}

// P4.2, P4.3: words of MaxName bytes, and of fewer and more.
func TestMaxName(t *testing.T) {
	for n := 1; n <= 40; n++ {
		for _, first := range []string{"a", "Z", "_", "0", "9"} {
			for _, rest := range []string{"a", "Z", "_", "0", "9"} {
				word := first + strings.Repeat(rest, n-1)
				want, digit := tokens(t, "a 1,1 "+word+" 1,3 . 1,"+strconv.Itoa(n+3)), strings.Contains(digits, first)
				switch {
				case digit:
					want = failure(1, 3, api.ErrSyntax)
				case n > 16:
					want = failure(1, 3, api.ErrFull)
				}
				expect(t, "a "+word, want)
				if got := lexer.IsName(word); got != (n <= 16 && !digit && first != "_") {
					t.Errorf("IsName(%q) = %v", word, got)
				}
			}
		}
	}
}

// P4.1, P4.3: a keyword is a word, but no name; only the very same bytes are a keyword.
func TestKeywords(t *testing.T) {
	for _, word := range keywords {
		expect(t, word, tokens(t, word+" 1,1 . 1,"+strconv.Itoa(len(word)+1)))
		if lexer.IsName(word) {
			t.Errorf("the keyword %q is a name", word)
		}
		for _, other := range []string{word + "s", word + "_", word + "1", "x" + word, word[:len(word)-1], word[1:], strings.ToUpper(word), strings.ToUpper(word[:1]) + word[1:]} {
			if !lexer.IsName(other) {
				t.Errorf("%q is no name", other)
			}
		}
	}
}

// P4.3: names and others that are written out.
func TestIsName(t *testing.T) {
	for _, s := range []string{
		"a", "z", "A", "Z", "x", "x1", "x_", "b0", "aB_9", "main", "abcdefghijklmnop", "A123456789012345", "a_______________", "functions", "use_", "End",
		"load", "unload", "submit", "cancel", "grant", "poll", "forget", "evict", "stats", "reach", "live", "taint", "uninit",
	} {
		if !lexer.IsName(s) {
			t.Errorf("IsName(%q) = false", s)
		}
	}
	for _, s := range []string{
		"", "1", "1x", "0", "_", "_x", "__", "abcdefghijklmnopq", strings.Repeat("a", 4096), strings.Repeat("a", 1<<20), " ", " x", "x ", "x y", "x\n", "\nx", "x;", "x=", "=",
		"x#", "#", "x-y", "-", "x.y", "x\x00", "\x00", "x\r", "\u00e4", "x\u00e4", "\xff", "a\x80", "end\n", "@a", "[a", "`a", "{a", "a@", "a[", "a`", "a{", "a/", "a:",
	} {
		if lexer.IsName(s) {
			t.Errorf("IsName(%q) = true", s)
		}
	}
}

// P4.3: all strings of up to two bytes, and all short ones of some bytes.
func TestIsNameEverywhere(t *testing.T) {
	check := func(s string) {
		if got := lexer.IsName(s); got != isName(s) {
			t.Errorf("IsName(%q) = %v", s, got)
		}
	}
	var bytes []byte
	for i := range 256 {
		bytes = append(bytes, byte(i))
	}
	each(string(bytes), 2, check)
	each("aZ0_ =\n\x80", 5, check)
	each("endus", 5, check)
}

// P4.1, P4.2: all texts of few bytes are scanned as the reference scans them.
func TestScanEverywhere(t *testing.T) {
	check := func(text string) {
		expect(t, text, reference(text))
		if t.Failed() {
			t.FailNow()
		}
	}
	each("a1_= \t;\n#\r", 4, check)
	each("a= ;\n#", 6, check)
	each("a1#\n\xc3", 6, check)
	for _, word := range []string{strings.Repeat("a", 16), strings.Repeat("a", 17), "1" + strings.Repeat("a", 17)} {
		each(" =;\n#-", 3, func(before string) {
			each(" =;\n#-", 2, func(after string) { check(before + word + after) })
		})
	}
}

// rejoin joins the texts of the tokens of each line by spaces, and the lines by line feeds.
func rejoin(list []api.Token) string {
	var lines, line []string
	for _, token := range list {
		if token.Kind == api.TokenEnd {
			lines, line = append(lines, strings.Join(line, " ")), nil
		} else {
			line = append(line, token.Text)
		}
	}
	return strings.Join(lines, "\n")
}

func withoutPositions(list []api.Token) []api.Token {
	list = slices.Clone(list)
	for i := range list {
		list[i].Line, list[i].Col = 0, 0
	}
	return list
}

// The consequence that the chapter draws.
func TestRejoinedTokens(t *testing.T) {
	check := func(text string) {
		first := scan(text)
		if first.err != api.OK {
			return
		}
		joined := rejoin(first.tokens)
		second := scan(joined)
		if second.err != api.OK || !slices.Equal(withoutPositions(first.tokens), withoutPositions(second.tokens)) {
			t.Errorf("the tokens of %q, joined, are %q, and have the tokens %v", text, joined, second)
		}
	}
	each("a_= ;\n#", 6, check)
	check("func m\nblock b\n  x = y z # both\n\n  branch x b c; ; # no\nend\n")
	check(strings.Repeat("abcdefghijklmnop\t", 240))
	check(strings.Repeat("=", 2048))
}

// P0.1: R1 (a panic would fail the test) and R5 for texts that end anywhere.
func TestEveryBeginning(t *testing.T) {
	text := "func main # \u00e4\n\tblock b0;x = y_1 z ;\n\n goto b0\nend;\n 1x - \x00" + strings.Repeat("y", 20) + "\r\n\xff="
	for from := range len(text) {
		for to := from; to <= len(text); to++ {
			got := scan(text[from:to])
			if (got.err == api.OK) != (got.line == 0 && got.col == 0) || got.err != api.OK && got.tokens != nil {
				t.Errorf("Scan(%q) = %v", text[from:to], got)
			}
			expect(t, text[from:to], reference(text[from:to]))
		}
	}
}

// P0.1: R2, what a caller does with a result changes no other one.
func TestResultsShareNothing(t *testing.T) {
	text := "x = y ; return"
	want := tokens(t, "x 1,1 = 1,3 y 1,5 . 1,7 return 1,9 . 1,15")
	first, second := scan(text), scan(text)
	for i := range first.tokens {
		first.tokens[i] = api.Token{Kind: 9, Text: "z", Line: 9, Col: 9}
	}
	if !slices.Equal(second.tokens, want.tokens) {
		t.Errorf("a result has changed: %v", second.tokens)
	}
	expect(t, text, want)
}
