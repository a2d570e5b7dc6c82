package syntax_test

import (
	"math"
	"reflect"
	"regexp"
	"slices"
	"strconv"
	"strings"
	"testing"

	"flowquery/api"
	"flowquery/lexer"
	"flowquery/syntax"
)

var (
	keywords = strings.Fields("func block end use call source sink sanitize goto branch return")

	noNames = slices.Concat(keywords, []string{
		"", "_", "_x", "__1", "1", "1x", "abcdefghijklmnopq", "x y", "x ", " x", "x\n", "x;", "x#", "x=", "=", "\u00e4", "\x00", "\xff", "use x", "end\n", "return;",
	})
)

func assign(def string, uses ...string) api.Stmt {
	return api.Stmt{Op: api.OpAssign, Def: def, Uses: uses}
}

func use(uses ...string) api.Stmt { return api.Stmt{Op: api.OpUse, Uses: uses} }

func block(name string, stmts ...api.Stmt) api.Block { return api.Block{Name: name, Stmts: stmts} }

func function(name string, blocks ...api.Block) api.Func { return api.Func{Name: name, Blocks: blocks} }

func program(funcs ...api.Func) api.Program { return api.Program{Funcs: funcs} }

func statements(stmts ...api.Stmt) api.Program { return program(function("m", block("b", stmts...))) }

var (
	call     = api.Stmt{Op: api.OpCall, Targets: []string{"f"}}
	source   = api.Stmt{Op: api.OpSource, Def: "x"}
	sink     = api.Stmt{Op: api.OpSink, Uses: []string{"x"}}
	sanitize = api.Stmt{Op: api.OpSanitize, Def: "x"}
	jump     = api.Stmt{Op: api.OpGoto, Targets: []string{"c"}}
	branch   = api.Stmt{Op: api.OpBranch, Uses: []string{"x"}, Targets: []string{"b", "c"}}
	finish   = api.Stmt{Op: api.OpReturn}
)

// result is what Parse returns.
type result struct {
	program   api.Program
	line, col int
	err       api.Errno
}

func parse(text string) result {
	p, line, col, err := syntax.Parse(text)
	return result{p, line, col, err}
}

// same compares all fields; a nil list and an empty one are equal, as R3 says.
func same(p, q api.Program) bool { return reflect.DeepEqual(normal(p), normal(q)) }

// normal returns a copy of a program that shares nothing with it and has nil for each empty list.
func normal(p api.Program) api.Program {
	var q api.Program
	for _, f := range p.Funcs {
		var blocks []api.Block
		for _, b := range f.Blocks {
			var stmts []api.Stmt
			for _, s := range b.Stmts {
				s.Uses, s.Targets = append([]string(nil), s.Uses...), append([]string(nil), s.Targets...)
				stmts = append(stmts, s)
			}
			blocks = append(blocks, api.Block{Name: b.Name, Stmts: stmts})
		}
		q.Funcs = append(q.Funcs, api.Func{Name: f.Name, Blocks: blocks})
	}
	return q
}

func expect(t *testing.T, text string, want result) {
	t.Helper()
	got := parse(text)
	if got.line != want.line || got.col != want.col || got.err != want.err || !same(got.program, want.program) {
		t.Errorf("Parse(%q) = %v, want %v", text, got, want)
	}
	if got.err != api.OK && got.program.Funcs != nil {
		t.Errorf("Parse(%q) returns an error and a program", text)
	}
}

// accepts checks that a text is that of a program, which is well formed.
func accepts(t *testing.T, text string, want api.Program) {
	t.Helper()
	expect(t, text, result{want, 0, 0, api.OK})
	if !syntax.Valid(want) {
		t.Errorf("the program of %q is not well formed", text)
	}
}

// rejects checks the error of a text in which an @ stands before the token of the error, or of a text that ends too early.
func rejects(t *testing.T, text string, err api.Errno) {
	t.Helper()
	before, after, found := strings.Cut(text, "@")
	want := result{err: err}
	if found {
		want.line, want.col = 1+strings.Count(before, "\n"), len(before)-strings.LastIndexByte(before, '\n')
	}
	expect(t, before+after, want)
}

// letters has a letter for each keyword; with n for names, _ for other words, = and . for the ends of lines, the tokens
// of a text are a string, and the grammar is a regular expression.
var letters = map[string]string{
	"func": "f", "block": "b", "end": "e", "use": "u", "call": "c", "source": "s", "sink": "k", "sanitize": "z", "goto": "g", "branch": "B", "return": "r",
}

var grammar = regexp.MustCompile(`\A(fn\.(bn\.((n=n*|un+|[cskzg]n|Bnnn|r)\.)+)+e\.)+\z`)

func letterOf(token api.Token) string {
	switch {
	case token.Kind == api.TokenEnd:
		return "."
	case token.Kind == api.TokenEqual:
		return "="
	case letters[token.Text] != "":
		return letters[token.Text]
	case lexer.IsName(token.Text):
		return "n"
	}
	return "_"
}

// begins reports whether one of the texts with which any beginning of a program can go on makes it a program.
func begins(tokens string) bool {
	for _, rest := range strings.Fields(`fn.bn.r.e. n.bn.r.e. .bn.r.e. bn.r.e. n.r.e. .r.e. r.e. =.e. nnn.e. nn.e. n.e. .e. e. .`) {
		if grammar.MatchString(tokens + rest) {
			return true
		}
	}
	return grammar.MatchString(tokens)
}

// after returns what comes after the last occurrence of a letter.
func after(tokens, letter string) string { return tokens[strings.LastIndex(tokens, letter)+1:] }

// full reports whether the last token of a beginning of a program begins one part too many.
func full(tokens string) bool {
	line := after(tokens, ".")
	switch {
	case line == "f":
		return strings.Count(tokens, "f") > 8
	case line == "b":
		return strings.Count(after(tokens, "f"), "b") > 16
	case len(line) == 1 && line != "e":
		return strings.Count(after(tokens, "b"), ".") > 32
	case strings.HasPrefix(line, "n="):
		return strings.HasSuffix(line, "nnnnn")
	case strings.HasPrefix(line, "u"):
		return strings.HasSuffix(line, "nnnnn")
	}
	return false
}

// reference returns the text that Print returns for the program of a text, and the error of Parse, found in another way.
func reference(text string) (string, result) {
	list, line, col, err := lexer.Scan(text)
	if err != api.OK {
		return "", result{line: line, col: col, err: err}
	}
	tokens, printed := "", ""
	for _, token := range list {
		tokens += letterOf(token)
		failure := result{line: token.Line, col: token.Col, err: api.ErrSyntax}
		if !begins(tokens) {
			return "", failure
		}
		if full(tokens) {
			failure.err = api.ErrFull
			return "", failure
		}
		if token.Kind == api.TokenEnd {
			printed = strings.TrimSuffix(printed, " ") + "\n"
		} else {
			printed += token.Text + " "
		}
	}
	if !grammar.MatchString(tokens) {
		return "", result{err: api.ErrSyntax}
	}
	return printed, result{}
}

// compare checks Parse of a text with the reference.
func compare(t *testing.T, text string) {
	t.Helper()
	printed, want := reference(text)
	got := parse(text)
	if got.line != want.line || got.col != want.col || got.err != want.err || syntax.Print(got.program) != printed {
		t.Fatalf("Parse(%q) = %v, want %v and the lines %q", text, got, want, printed)
	}
	if syntax.Valid(got.program) != (want.err == api.OK) {
		t.Fatalf("Valid of the program of %q is wrong", text)
	}
}

// every is a text in which every part of the grammar occurs.
const every = "func m; block b; x = y z; w =; use x; use y z w; block c; call f; source x; sink x; sanitize y; goto b; block d; branch z b d; end; func f; block e; return; end"

// everyProgram returns the program of this text, in new memory.
func everyProgram() api.Program {
	return normal(program(
		function("m",
			block("b", assign("x", "y", "z"), assign("w"), use("x"), use("y", "z", "w")),
			block("c", call, source, sink, api.Stmt{Op: api.OpSanitize, Def: "y"}, api.Stmt{Op: api.OpGoto, Targets: []string{"b"}}),
			block("d", api.Stmt{Op: api.OpBranch, Uses: []string{"z"}, Targets: []string{"b", "d"}})),
		function("f", block("e", finish))))
}

// P5.1: the examples of the chapter.
func TestExamples(t *testing.T) {
	accepts(t, "func m; block b; x = y z; return; end", statements(assign("x", "y", "z"), finish))
	rejects(t, "func m; block b; branch x b@; return; end", api.ErrSyntax)
	rejects(t, "", api.ErrSyntax)
	_, line, col, err := syntax.Parse("func m; block b; branch x b; return; end")
	if line != 1 || col != 28 || err != api.ErrSyntax {
		t.Errorf("the error of the second example is %v at %d, %d", err, line, col)
	}
}

// P5.1: the statements of each operation, alone in their block and among others.
func TestStatements(t *testing.T) {
	for _, c := range []struct {
		line string
		want api.Stmt
	}{
		{"x =", assign("x")},
		{"x = y", assign("x", "y")},
		{"x = x", assign("x", "x")},
		{"x = a b c d", assign("x", "a", "b", "c", "d")},
		{"x = a a b a", assign("x", "a", "a", "b", "a")},
		{"use x", use("x")},
		{"use a b c d", use("a", "b", "c", "d")},
		{"use a b b", use("a", "b", "b")},
		{"call f", call},
		{"source x", source},
		{"sink x", sink},
		{"sanitize x", sanitize},
		{"goto c", jump},
		{"branch x b c", branch},
		{"branch b b b", api.Stmt{Op: api.OpBranch, Uses: []string{"b"}, Targets: []string{"b", "b"}}},
		{"return", finish},
	} {
		accepts(t, "func m; block b; "+c.line+"; end", statements(c.want))
		accepts(t, "func m; block b; return; "+c.line+"; goto c; end", statements(finish, c.want, jump))
		accepts(t, "func m; block b; "+c.line+"; block b; "+c.line+"; end", program(function("m", block("b", c.want), block("b", c.want))))
	}
}

// P5.1: whole programs, in different layouts. The grammar does not ask that names are declared or different.
func TestPrograms(t *testing.T) {
	accepts(t, every, everyProgram())
	accepts(t, "func main # begins here\n\n\tblock b0; x_1=y Y\n # a comment ; end\n sink x_1 # both\n;; return;\nend", program(function("main",
		block("b0", assign("x_1", "y", "Y"), api.Stmt{Op: api.OpSink, Uses: []string{"x_1"}}, finish))))
	accepts(t, "func m\nblock m\nm = m m\nend\nfunc m\nblock m\nuse m\nend\n", program(function("m", block("m", assign("m", "m", "m"))), function("m", block("m", use("m")))))
	accepts(t, "func abcdefghijklmnop;block ABCDEFGHIJKLMNOP;funcs=used end1;end", program(function("abcdefghijklmnop", block("ABCDEFGHIJKLMNOP", assign("funcs", "used", "end1")))))
}

// P5.1: a statement uses MaxUses names at most; the error is at the next one.
func TestMaxUses(t *testing.T) {
	for n := range 10 {
		for _, begin := range []string{"x =", "use"} {
			names := strings.Fields("a b c d e f g h i j")[:n]
			line := begin + strings.Join(append([]string{""}, names...), " ")
			want := assign("x", names...)
			if begin == "use" {
				want = use(names...)
			}
			switch {
			case n == 0 && begin == "use":
				rejects(t, "func m; block b; use@; end", api.ErrSyntax)
			case n <= api.MaxUses:
				accepts(t, "func m; block b; "+line+"; end", statements(want))
			default:
				rejects(t, "func m; block b; "+strings.Replace(line, " e", " @e", 1)+"; end", api.ErrFull)
			}
		}
	}
	rejects(t, "func m\nblock b\n\n  x = y y\ty y @y y # no\nend", api.ErrFull)
}

// numbered returns texts one after the other in which a % is replaced by 0, 1 and so on.
func numbered(n int, text string) string {
	var all strings.Builder
	for i := range n {
		all.WriteString(strings.ReplaceAll(text, "%", strconv.Itoa(i)))
	}
	return all.String()
}

// P5.1: a program has MaxFuncs functions at most.
func TestMaxFuncs(t *testing.T) {
	const text = "func f%\nblock b\ny =\nend\n"
	var funcs []api.Func
	for n := 1; n <= 8; n++ {
		funcs = append(funcs, function("f"+strconv.Itoa(n-1), block("b", assign("y"))))
		accepts(t, numbered(n, text), program(funcs...))
	}
	for _, rest := range []string{"@func", "@func f", " ;\n@func\n", "@func f; block b; return; end", "@func func", "@func = ;"} {
		rejects(t, numbered(8, text)+rest, api.ErrFull)
	}
	rejects(t, numbered(8, text)+"@block b; return; end", api.ErrSyntax)
	rejects(t, numbered(8, text)+"@end", api.ErrSyntax)
	rejects(t, numbered(8, text)+"@f", api.ErrSyntax)
	rejects(t, numbered(8, text)+"@= func", api.ErrSyntax)
}

// P5.1: a function has MaxBlocks blocks at most.
func TestMaxBlocks(t *testing.T) {
	const text = "block b%\ngoto b%\n"
	var blocks []api.Block
	for n := 1; n <= 16; n++ {
		name := "b" + strconv.Itoa(n-1)
		blocks = append(blocks, block(name, api.Stmt{Op: api.OpGoto, Targets: []string{name}}))
		accepts(t, "func m\n"+numbered(n, text)+"end", program(function("m", blocks...)))
		accepts(t, "func m\n"+numbered(n, text)+"end\nfunc m\n"+numbered(n, text)+"end\n", program(function("m", blocks...), function("m", blocks...)))
	}
	for _, rest := range []string{"@block", "@block b", "@block block", "@block =", "@block b; return; end", "@block b; end"} {
		rejects(t, "func m\n"+numbered(16, text)+rest, api.ErrFull)
		rejects(t, "func a; block b; return; end; func m;"+numbered(16, text)+rest, api.ErrFull)
	}
	rejects(t, "func m\n"+numbered(16, text)+"@func m; block b; return; end", api.ErrSyntax)
	rejects(t, "func m\n"+numbered(16, text), api.ErrSyntax)
}

// P5.1: a block has MaxStmts statements at most; the error is at the first token of the next one, whatever follows it.
func TestMaxStmts(t *testing.T) {
	const text = "func m\nblock a; return\nblock b\n"
	var stmts []api.Stmt
	for n := 1; n <= 32; n++ {
		stmts = append(stmts, api.Stmt{Op: api.OpSource, Def: "x" + strconv.Itoa(n-1)})
		accepts(t, text+numbered(n, "source x%;")+"end", program(function("m", block("a", finish), block("b", stmts...))))
		accepts(t, text+numbered(n, "source x%;")+"block c\n"+numbered(n, "source x%\n")+"end", program(function("m", block("a", finish), block("b", stmts...), block("c", stmts...))))
	}
	for _, begin := range strings.Fields("x use call source sink sanitize goto branch return") {
		for _, rest := range []string{"", " =", " x", " x x", " x b b", " end", "; end", " = y; end", " x x x x x x"} {
			rejects(t, text+numbered(32, "source x%;")+"@"+begin+rest, api.ErrFull)
		}
	}
	for _, other := range []string{"=", "_x", "func"} {
		rejects(t, text+numbered(32, "source x%;")+"@"+other+" x", api.ErrSyntax)
	}
	rejects(t, text+numbered(31, "source x%;")+"x = y; @x = y", api.ErrFull)
}

// P5.1: errors of Scan, wherever they are, come before all others.
func TestErrorsOfScan(t *testing.T) {
	long := strings.Repeat("x", 17)
	for _, text := range []string{"", "x ", "end;\n", "func = ;", "func m\nblock b\n", "func m; block b; x = a b c d e ", every + "\n", numbered(9, "func f; block b; return; end\n")} {
		rejects(t, text+"@-", api.ErrSyntax)
		rejects(t, text+"@1x", api.ErrSyntax)
		rejects(t, text+"@"+long, api.ErrFull)
		rejects(t, text+"@"+long+" -", api.ErrFull)
		rejects(t, text+"@- "+long, api.ErrSyntax)
		rejects(t, text+"@\r\n"+every, api.ErrSyntax)
		rejects(t, text+strings.Repeat(" ", 4097), api.ErrFull)
		rejects(t, text+"- "+strings.Repeat("\n", 4096), api.ErrFull)
	}
	rejects(t, "func m; block b; use @"+long+"; end", api.ErrFull)
	accepts(t, every+strings.Repeat("\n", 4096-len(every)), everyProgram())
	rejects(t, every+strings.Repeat("\n", 4097-len(every)), api.ErrFull)
}

// P5.1: tokens with which nothing begins where they are.
func TestWrongTokens(t *testing.T) {
	for _, text := range []string{
		"@m", "@= func m", "@_", "@block b; return; end", "@end", "@x = y", "@return", "@funcs m",
		"func@", "func @func", "func @= m", "func @_m; block b; return; end", "func @end", "func@; m", "func m @m; block b; return; end", "func m @=", "func m @block b; return; end",
		"func m; @func m", "func m; @end", "func m; @return; end", "func m; @b; return; end", "func m; @x = y; end", "func m; @_", "func m; @=",
		"func m; block@; return; end", "func m; block @block; return; end", "func m; block @end; return; end", "func m; block @_b; return; end", "func m; block @=",
		"func m; block b @c; return; end", "func m; block b @return; end", "func m; block b @= x",
		"func m; block b; @end", "func m; block b; @block c; return; end", "func m; block b; @func f; block b; return; end", "func m; block b; @= x; end", "func m; block b; @_x = y; end",
		"func m; block b; x@; end", "func m; block b; x @y; end", "func m; block b; x @_; end", "func m; block b; x @use; end", "func m; block b; x @end", "func m; block b; x @func",
		"func m; block b; x = @=; end", "func m; block b; x = y @= z; end", "func m; block b; x = @_y; end", "func m; block b; x = y @end", "func m; block b; x = @return; end", "func m; block b; x = @use y; end", "func m; block b; x = y @block b",
		"func m; block b; use@; end", "func m; block b; use @=; end", "func m; block b; use @use; end", "func m; block b; use @_x; end", "func m; block b; use x @= y; end", "func m; block b; use x @return; end", "func m; block b; use x y @end",
		"func m; block b; call@; end", "func m; block b; call @call; end", "func m; block b; call @= f; end", "func m; block b; call f @f; end", "func m; block b; call f @= x; end", "func m; block b; call f @return; end",
		"func m; block b; source@; end", "func m; block b; source @sink; end", "func m; block b; source x @y; end", "func m; block b; source x @= y; end", "func m; block b; source @= y; end",
		"func m; block b; sink@; end", "func m; block b; sink @source; end", "func m; block b; sink x @y; end", "func m; block b; sink x @= y; end", "func m; block b; sink @_; end",
		"func m; block b; sanitize@; end", "func m; block b; sanitize @end; end", "func m; block b; sanitize x @y; end", "func m; block b; sanitize x @= y; end",
		"func m; block b; goto@; end", "func m; block b; goto @block; end", "func m; block b; goto b @c; end", "func m; block b; goto @= b; end", "func m; block b; goto b @= b; end",
		"func m; block b; branch@; end", "func m; block b; branch x@; end", "func m; block b; branch x b@; end", "func m; block b; branch x b c @d; end", "func m; block b; branch @= x b c; end", "func m; block b; branch x @= b c; end", "func m; block b; branch x b @goto; end", "func m; block b; branch x @_ c; end",
		"func m; block b; return @x; end", "func m; block b; return @= x; end", "func m; block b; return @end", "func m; block b; return @return; end",
		"func m; block b; return; end @end", "func m; block b; return; end @func f", "func m; block b; return; end @= x", "func m; block b; return; end @m",
		"func m; block b; return; end; @end", "func m; block b; return; end; @block b; return; end", "func m; block b; return; end; @return", "func m; block b; return; end; @x = y", "func m; block b; return; end; @=", "func m; block b; return; end; @_",
		"func m; block b; return; @func f; block b; return; end", "func m; block b; return; @= x; end", "func m; block b; return; @_; end", "func m\n\n\tblock b # b\n  return\n ; @func f",
		"func @# m\nblock b", "func m; block b; use @# x\nend", "func m; block b; use @\nx; end", "func m\nblock b\n\tbranch x b@;c; end",
	} {
		rejects(t, text, api.ErrSyntax)
	}
}

// P5.1: the first error counts, and for one token, ErrSyntax comes before ErrFull.
func TestFirstError(t *testing.T) {
	const uses = "func m; block b; use a b c d "
	blocks := "func m;" + numbered(15, "block b;return;")
	for _, c := range []struct {
		text string
		err  api.Errno
	}{
		{"func m; block b; x = a b c d @= e", api.ErrSyntax},
		{"func m; block b; x = a b c d @use e", api.ErrSyntax},
		{"func m; block b; x = a b c d @_e", api.ErrSyntax},
		{"func m; block b; x = a b c d @e = ;", api.ErrFull},
		{uses + "@end", api.ErrSyntax},
		{uses + "@= x", api.ErrSyntax},
		{uses + "@e f g = ;", api.ErrFull},
		{uses + "@e; end; end", api.ErrFull},
		{uses + "; @func f; block b; use a b c d e", api.ErrSyntax},
		{"func m; block b; branch a b c @d e f", api.ErrSyntax},
		{"func m; block b; sink a @b c d e", api.ErrSyntax},
		{blocks + "block b; @block b; return; end", api.ErrSyntax},
		{blocks + "block b @block b; return; end", api.ErrSyntax},
		{blocks + "block b; return @block b; return; end", api.ErrSyntax},
		{blocks + "block b; return; @block; return; return x", api.ErrFull},
		{blocks + "block b;" + numbered(32, "return;") + "@block b", api.ErrFull},
		{blocks + "block b;" + numbered(32, "return;") + "@return", api.ErrFull},
		{blocks + "block b;" + numbered(32, "return;") + "@func", api.ErrSyntax},
		{blocks + "block b;" + numbered(32, "return;") + "end; @end", api.ErrSyntax},
		{blocks + "block b;" + numbered(31, "return;") + "use a b c d @e; return; block b; x", api.ErrFull},
		{numbered(7, "func f; block b; return; end;") + "func f; block b; return; @func f", api.ErrSyntax},
		{numbered(7, "func f; block b; return; end;") + "func f; @func f", api.ErrSyntax},
		{numbered(7, "func f; block b; return; end;") + "func f; block b; return; end @func f", api.ErrSyntax},
		{numbered(7, "func f; block b; return; end;") + "func f; block b; return; end; @func f = ;", api.ErrFull},
		{numbered(8, "func f; block b; return; end;") + "@x; func f", api.ErrSyntax},
	} {
		rejects(t, c.text, c.err)
	}
}

// P5.1: texts that end too early: after each line, at 0, 0 (unless a function has ended), and after each byte, as the
// reference.
func TestEveryBeginning(t *testing.T) {
	lines := strings.Split(every, "; ")
	for n := range len(lines) + 1 {
		for _, end := range []string{"", "\n", ";", " # end", ";\n\n\t;"} {
			text := strings.Join(lines[:n], "; ") + end
			if n > 0 && lines[n-1] == "end" {
				accepts(t, text, program(everyProgram().Funcs[:strings.Count(text, "func")]...))
			} else {
				rejects(t, text, api.ErrSyntax)
			}
		}
	}
	for n := range every {
		compare(t, every[:n])
	}
	for _, text := range []string{"\n", ";;", "# func m", " \t", "func m\n", "func m; # block b", "func m; block b; x =", "func m; block b; use x; block c; use y", "func m; block b; return; end; func f; block b; return"} {
		rejects(t, text, api.ErrSyntax)
	}
}

// P5.1: after each beginning of a text with every part of the grammar, each token and each two tokens, as the reference.
func TestEveryTokenEverywhere(t *testing.T) {
	list, _, _, _ := lexer.Scan(every)
	words := append(strings.Fields("x _x = ;"), keywords...)
	text := ""
	for _, token := range append([]api.Token{{}}, list...) {
		if token.Kind == api.TokenEnd {
			text += ";"
		} else {
			text += " " + token.Text
		}
		compare(t, text)
		for _, a := range words {
			compare(t, text+" "+a)
			for _, b := range words {
				compare(t, text+" "+a+" "+b)
				compare(t, text+" "+a+" "+b+"; end")
			}
		}
	}
}

// numbers are made by a short rule, the same ones in each run.
type numbers uint64

func (n *numbers) below(most int) int {
	*n = *n*6364136223846793005 + 1442695040888963407
	return int(uint64(*n) >> 33 % uint64(most))
}

func (n *numbers) name() string {
	names := []string{"a", "b", "c", "x1", "Y_", "longest_name_16b", "func0", "ends"}
	return names[n.below(len(names))]
}

func (n *numbers) names(least, most int) []string {
	var names []string
	for range least + n.below(most-least+1) {
		names = append(names, n.name())
	}
	return names
}

func (n *numbers) stmt() api.Stmt {
	switch op := 1 + n.below(9); op {
	case api.OpAssign:
		return assign(n.name(), n.names(0, 4)...)
	case api.OpUse:
		return use(n.names(1, 4)...)
	case api.OpCall, api.OpGoto:
		return api.Stmt{Op: op, Targets: n.names(1, 1)}
	case api.OpSource, api.OpSanitize:
		return api.Stmt{Op: op, Def: n.name()}
	case api.OpSink:
		return api.Stmt{Op: op, Uses: n.names(1, 1)}
	case api.OpBranch:
		return api.Stmt{Op: op, Uses: n.names(1, 1), Targets: n.names(2, 2)}
	default:
		return finish
	}
}

// program returns a well-formed program with parts of at most these numbers.
func (n *numbers) program(funcs, blocks, stmts int) api.Program {
	var p api.Program
	for range 1 + n.below(funcs) {
		f := api.Func{Name: n.name()}
		for range 1 + n.below(blocks) {
			b := api.Block{Name: n.name()}
			for range 1 + n.below(stmts) {
				b.Stmts = append(b.Stmts, n.stmt())
			}
			f.Blocks = append(f.Blocks, b)
		}
		p.Funcs = append(p.Funcs, f)
	}
	return p
}

// P5.1, P5.3: programs are read back, and texts in which some tokens have been changed are parsed as the reference does it.
func TestChangedPrograms(t *testing.T) {
	n := numbers(1)
	words := append(strings.Fields("x y _x = ; ;"), keywords...)
	for i := range 1000 {
		p := n.program(1+i%3, 1+i%4, 1+i%5)
		text := syntax.Inline(p)
		readBack(t, p)
		compare(t, text)
		for range 5 {
			parts := strings.Fields(strings.ReplaceAll(text, ";", " ;"))
			for range 1 + n.below(2) {
				at, word := n.below(len(parts)), words[n.below(len(words))]
				switch n.below(4) {
				case 0:
					parts = slices.Delete(parts, at, at+1)
				case 1:
					parts = slices.Insert(parts, at, word)
				case 2:
					parts[at] = word
				default:
					parts = slices.Insert(parts, at, parts[n.below(len(parts))])
				}
				if len(parts) == 0 {
					break
				}
			}
			compare(t, strings.Join(parts, " "))
		}
	}
}

// readBack checks the consequence that the chapter draws, for each text of at most MaxText bytes.
func readBack(t *testing.T, p api.Program) {
	t.Helper()
	for _, text := range []string{syntax.Print(p), syntax.Inline(p)} {
		if text == "" {
			t.Errorf("%v has no text", p)
		}
		if len(text) <= 4096 {
			accepts(t, text, p)
		} else {
			expect(t, text, result{err: api.ErrFull})
		}
	}
}

// P5.3: both texts of programs that are written out.
func TestPrint(t *testing.T) {
	for _, c := range []struct {
		p    api.Program
		text string
	}{
		{statements(finish), "func m\nblock b\nreturn\nend\n"},
		{statements(assign("x", "y", "z"), finish), "func m\nblock b\nx = y z\nreturn\nend\n"},
		{statements(assign("x")), "func m\nblock b\nx =\nend\n"},
		{statements(api.Stmt{Op: 1, Def: "x", Uses: []string{}, Targets: []string{}}), "func m\nblock b\nx =\nend\n"},
		{statements(assign("x", "a", "b", "c", "d")), "func m\nblock b\nx = a b c d\nend\n"},
		{statements(use("x"), use("a", "b", "c", "d")), "func m\nblock b\nuse x\nuse a b c d\nend\n"},
		{statements(call, source, sink, sanitize), "func m\nblock b\ncall f\nsource x\nsink x\nsanitize x\nend\n"},
		{statements(jump, branch, finish), "func m\nblock b\ngoto c\nbranch x b c\nreturn\nend\n"},
		{program(function("m", block("b", jump), block("c", finish)), function("f", block("b", finish))), "func m\nblock b\ngoto c\nblock c\nreturn\nend\nfunc f\nblock b\nreturn\nend\n"},
		{everyProgram(), strings.ReplaceAll(every, "; ", "\n") + "\n"},
	} {
		inline := strings.ReplaceAll(strings.TrimSuffix(c.text, "\n"), "\n", "; ")
		if got := syntax.Print(c.p); got != c.text {
			t.Errorf("Print(%v) = %q, want %q", c.p, got, c.text)
		}
		if got := syntax.Inline(c.p); got != inline {
			t.Errorf("Inline(%v) = %q, want %q", c.p, got, inline)
		}
		accepts(t, c.text, c.p)
		accepts(t, inline, c.p)
	}
	if got := syntax.Inline(everyProgram()); got != every {
		t.Errorf("Inline = %q, want %q", got, every)
	}
}

// P5.3: the program with most parts, whose texts are far longer than MaxText.
func TestLargestProgram(t *testing.T) {
	large := program(slices.Repeat([]api.Func{function("f", slices.Repeat([]api.Block{block("b", slices.Repeat([]api.Stmt{finish}, 32)...)}, 16)...)}, 8)...)
	lines := strings.Repeat("func f\n"+strings.Repeat("block b\n"+strings.Repeat("return\n", 32), 16)+"end\n", 8)
	if !syntax.Valid(large) || syntax.Print(large) != lines || syntax.Inline(large) != strings.ReplaceAll(lines[:len(lines)-1], "\n", "; ") {
		t.Error("the largest program is not well formed, or has wrong texts")
	}
	readBack(t, large)
}

// The consequence: programs whose texts have exactly MaxText bytes are read back, and those with one more are not.
func TestConsequence(t *testing.T) {
	for _, inline := range []bool{false, true} {
		for _, size := range []int{4095, 4096, 4097, 4098} {
			p := sized(t, size, inline)
			text := syntax.Print(p)
			if inline {
				text = syntax.Inline(p)
			}
			if len(text) != size {
				t.Fatalf("the text has %d bytes, not %d", len(text), size)
			}
			if size <= 4096 {
				accepts(t, text, p)
			} else {
				expect(t, text, result{err: api.ErrFull})
			}
		}
	}
}

// sized returns a program whose text has this size: after a number of long lines, the names of the last one have as many
// letters as are missing.
func sized(t *testing.T, size int, inline bool) api.Program {
	t.Helper()
	long := strings.Repeat("x", 16)
	for lines := range 100 {
		for letters := 4; letters <= 64; letters++ {
			var names []string
			for i := range 4 {
				names = append(names, long[:(letters+i)/4])
			}
			blocks := []api.Block{block("b", assign(names[0], names[1:]...))}
			for at := 0; at < lines; at += 32 {
				blocks = append(blocks, block("b", slices.Repeat([]api.Stmt{assign(long, long, long)}, min(32, lines-at))...))
			}
			p := program(function("m", blocks...))
			if inline && len(syntax.Inline(p)) == size || !inline && len(syntax.Print(p)) == size {
				return p
			}
		}
	}
	t.Fatalf("no program has a text of %d bytes", size)
	return api.Program{}
}

// notWellFormed checks what is promised for a program that is not well formed.
func notWellFormed(t *testing.T, p api.Program) {
	t.Helper()
	if syntax.Valid(p) || syntax.Print(p) != "" || syntax.Inline(p) != "" {
		t.Errorf("%v: Valid = %v, Print = %q, Inline = %q", p, syntax.Valid(p), syntax.Print(p), syntax.Inline(p))
	}
	if !syntax.Equal(p, p) {
		t.Errorf("%v is not equal to itself", p)
	}
}

// signature matches statements written as their operation, d for Def, and u and t for each of Uses and Targets.
var signature = regexp.MustCompile(`\A(1du{0,4}|2u{1,4}|[37]t|[46]d|5u|8utt|9)\z`)

// P5.2, P5.3: statements with all operations and others, with and without Def, and with all numbers of Uses and Targets.
func TestValidStatements(t *testing.T) {
	for op := -2; op <= 12; op++ {
		for _, def := range []string{"", "x"} {
			for uses := range 7 {
				for targets := range 5 {
					s := api.Stmt{Op: op, Def: def, Uses: strings.Fields("a b c d e f")[:uses], Targets: strings.Fields("g h i j")[:targets]}
					p := statements(finish, s, finish)
					written := strconv.Itoa(op) + strings.Repeat("d", len(def)) + strings.Repeat("u", uses) + strings.Repeat("t", targets)
					if !signature.MatchString(written) {
						notWellFormed(t, p)
						continue
					}
					if !syntax.Valid(p) {
						t.Errorf("%v is not well formed", p)
					}
					readBack(t, p)
				}
			}
		}
	}
	for _, op := range []int{math.MinInt, math.MinInt32, 1<<8 + api.OpReturn, 1<<16 + api.OpReturn, math.MaxInt32, math.MaxInt} {
		notWellFormed(t, statements(api.Stmt{Op: op}))
	}
}

// P5.2, P5.3: every string of a program, replaced by one that is no name.
func TestValidNames(t *testing.T) {
	count := len(nameFields(everyProgram()))
	if count != 22 {
		t.Fatalf("%d names are tried", count)
	}
	for i := range count {
		for _, s := range noNames {
			p := everyProgram()
			*nameFields(p)[i] = s
			notWellFormed(t, p)
		}
		for _, s := range []string{"x", "Z", "abcdefghijklmnop", "func_", "a9", "reach"} {
			p := everyProgram()
			*nameFields(p)[i] = s
			if !syntax.Valid(p) {
				t.Errorf("with %q, %v is not well formed", s, p)
			}
			readBack(t, p)
		}
	}
	for _, s := range append([]string{"x"}, noNames...) {
		notWellFormed(t, statements(api.Stmt{Op: api.OpUse, Def: s, Uses: []string{"x", s}}))
		notWellFormed(t, statements(api.Stmt{Op: api.OpReturn, Targets: []string{s}}))
		notWellFormed(t, statements(api.Stmt{Op: api.OpReturn, Uses: []string{s}}))
		if s != "" {
			notWellFormed(t, statements(api.Stmt{Op: api.OpReturn, Def: s}))
			notWellFormed(t, statements(api.Stmt{Op: api.OpSink, Def: s, Uses: []string{"x"}}))
		}
	}
}

// nameFields returns all the places of names in a program.
func nameFields(p api.Program) []*string {
	var fields []*string
	for i := range p.Funcs {
		f := &p.Funcs[i]
		fields = append(fields, &f.Name)
		for j := range f.Blocks {
			b := &f.Blocks[j]
			fields = append(fields, &b.Name)
			for k := range b.Stmts {
				fields = append(fields, stmtFields(&b.Stmts[k])...)
			}
		}
	}
	return fields
}

func stmtFields(s *api.Stmt) []*string {
	var fields []*string
	if s.Def != "" {
		fields = append(fields, &s.Def)
	}
	for i := range s.Uses {
		fields = append(fields, &s.Uses[i])
	}
	for i := range s.Targets {
		fields = append(fields, &s.Targets[i])
	}
	return fields
}

// P5.2, P5.3: the numbers of functions, blocks and statements, where the last one may be the only wrong part.
func TestValidNumbers(t *testing.T) {
	for n := range 40 {
		stmts := slices.Repeat([]api.Stmt{finish}, n)
		blocks := slices.Repeat([]api.Block{block("b", finish)}, n)
		funcs := slices.Repeat([]api.Func{function("f", block("b", finish))}, n)
		for _, c := range []struct {
			most int
			p    api.Program
		}{
			{32, statements(stmts...)},
			{32, program(function("f", block("b", finish), block("c", stmts...)), function("f", block("b", finish)))},
			{16, program(function("f", blocks...))},
			{16, program(function("f", block("b", finish)), function("g", blocks...))},
			{8, program(funcs...)},
		} {
			if 1 <= n && n <= c.most {
				if !syntax.Valid(c.p) {
					t.Errorf("%v is not well formed", c.p)
				}
				readBack(t, c.p)
			} else {
				notWellFormed(t, c.p)
			}
		}
	}
	for _, n := range []int{1 << 8, 1<<8 + 1, 1 << 16, 1<<16 + 1} {
		notWellFormed(t, statements(slices.Repeat([]api.Stmt{finish}, n)...))
		notWellFormed(t, program(function("f", slices.Repeat([]api.Block{block("b", finish)}, n)...)))
		notWellFormed(t, program(slices.Repeat([]api.Func{function("f", block("b", finish))}, n)...))
		notWellFormed(t, statements(use(slices.Repeat([]string{"x"}, n)...)))
		notWellFormed(t, statements(api.Stmt{Op: api.OpCall, Targets: slices.Repeat([]string{"x"}, n)}))
	}
}

// P5.2, P5.3: a nil list and an empty one where the grammar asks for parts, and a wrong part behind others.
func TestNotWellFormed(t *testing.T) {
	right := function("f", block("b", finish))
	for _, p := range []api.Program{
		{},
		{Funcs: []api.Func{}},
		program(function("f")),
		{Funcs: []api.Func{{Name: "f", Blocks: []api.Block{}}}},
		program(function("f", block("b"))),
		{Funcs: []api.Func{{Name: "f", Blocks: []api.Block{{Name: "b", Stmts: []api.Stmt{}}}}}},
		{Funcs: make([]api.Func, 1)},
		{Funcs: []api.Func{{Name: "f", Blocks: make([]api.Block, 1)}}},
		statements(api.Stmt{}),
		program(right, function("f")),
		program(function("f"), right),
		program(right, api.Func{}, right),
		program(function("f", block("b", finish), block("c"))),
		program(function("f", block("c"), block("b", finish))),
		program(right, right, function("f", block("b", finish, finish, api.Stmt{}))),
		program(right, right, function("f", block("b", finish), block("b", api.Stmt{}, finish))),
		statements(use()),
		{Funcs: []api.Func{function("f", block("b", api.Stmt{Op: api.OpUse, Uses: []string{}}))}},
	} {
		notWellFormed(t, p)
	}
	for _, s := range []api.Stmt{
		{Op: api.OpAssign, Def: "x", Uses: []string{}, Targets: []string{}},
		{Op: api.OpUse, Uses: []string{"x"}, Targets: []string{}},
		{Op: api.OpCall, Uses: []string{}, Targets: []string{"f"}},
		{Op: api.OpSource, Def: "x", Uses: []string{}, Targets: []string{}},
		{Op: api.OpReturn, Uses: []string{}, Targets: []string{}},
	} {
		if !syntax.Valid(statements(s)) {
			t.Errorf("with empty lists, %v is not well formed", s)
		}
		readBack(t, statements(s))
	}
}

// P5.4: two programs, one of which has been changed in one place. Those that are not well formed are compared, too.
func TestEqual(t *testing.T) {
	whole := everyProgram()
	changes := []func(p *api.Program){
		func(p *api.Program) { p.Funcs = nil },
		func(p *api.Program) { p.Funcs = p.Funcs[:1] },
		func(p *api.Program) { p.Funcs = p.Funcs[1:] },
		func(p *api.Program) { p.Funcs = append(p.Funcs, api.Func{}) },
		func(p *api.Program) { slices.Reverse(p.Funcs) },
		func(p *api.Program) { p.Funcs[0].Blocks = nil },
		func(p *api.Program) { p.Funcs[0].Blocks = p.Funcs[0].Blocks[:2] },
		func(p *api.Program) { p.Funcs[1].Blocks = append(p.Funcs[1].Blocks, api.Block{}) },
		func(p *api.Program) { slices.Reverse(p.Funcs[0].Blocks) },
		func(p *api.Program) { p.Funcs[0].Blocks[2].Stmts = nil },
		func(p *api.Program) { p.Funcs[0].Blocks[0].Stmts = p.Funcs[0].Blocks[0].Stmts[1:] },
		func(p *api.Program) { p.Funcs[1].Blocks[0].Stmts = append(p.Funcs[1].Blocks[0].Stmts, api.Stmt{}) },
		func(p *api.Program) { slices.Reverse(p.Funcs[0].Blocks[1].Stmts) },
		func(p *api.Program) { p.Funcs[1].Blocks[0].Stmts[0].Def = "x" },
		func(p *api.Program) { p.Funcs[1].Blocks[0].Stmts[0].Uses = []string{""} },
		func(p *api.Program) { p.Funcs[1].Blocks[0].Stmts[0].Targets = []string{""} },
		func(p *api.Program) { slices.Reverse(p.Funcs[0].Blocks[0].Stmts[0].Uses) },
		func(p *api.Program) { slices.Reverse(p.Funcs[0].Blocks[2].Stmts[0].Targets) },
	}
	for i := range nameFields(whole) {
		changes = append(changes, func(p *api.Program) { *nameFields(*p)[i] += "_" }, func(p *api.Program) { *nameFields(*p)[i] = "" })
	}
	for i, f := range whole.Funcs {
		for j, b := range f.Blocks {
			for k := range b.Stmts {
				changes = append(changes,
					func(p *api.Program) { p.Funcs[i].Blocks[j].Stmts[k].Op += 9 },
					func(p *api.Program) { p.Funcs[i].Blocks[j].Stmts[k].Op = -1 },
					func(p *api.Program) {
						p.Funcs[i].Blocks[j].Stmts[k].Uses = append(p.Funcs[i].Blocks[j].Stmts[k].Uses, "x")
					},
					func(p *api.Program) {
						p.Funcs[i].Blocks[j].Stmts[k].Targets = append(p.Funcs[i].Blocks[j].Stmts[k].Targets, "x")
					})
			}
		}
	}
	for i, change := range changes {
		p, q := normal(whole), normal(whole)
		if !syntax.Equal(p, q) {
			t.Fatal("a program is not equal to its copy")
		}
		change(&p)
		if syntax.Equal(p, q) || syntax.Equal(q, p) {
			t.Errorf("change %d: %v and %v are equal", i, p, q)
		}
		change(&q)
		if !syntax.Equal(p, q) || !syntax.Equal(q, p) {
			t.Errorf("change %d: %v and %v are not equal", i, p, q)
		}
	}
}

// P5.4: a nil list and an empty one are equal at every level; lists of different lengths are not.
func TestEqualLists(t *testing.T) {
	for _, c := range [][2]api.Program{
		{{}, {Funcs: []api.Func{}}},
		{program(function("f")), {Funcs: []api.Func{{Name: "f", Blocks: []api.Block{}}}}},
		{program(function("f", block("b"))), {Funcs: []api.Func{{Name: "f", Blocks: []api.Block{{Name: "b", Stmts: []api.Stmt{}}}}}}},
		{statements(finish), statements(api.Stmt{Op: api.OpReturn, Uses: []string{}})},
		{statements(finish), statements(api.Stmt{Op: api.OpReturn, Targets: []string{}})},
		{statements(finish), statements(api.Stmt{Op: api.OpReturn, Uses: make([]string, 0, 3), Targets: make([]string, 0, 3)})},
		{statements(api.Stmt{}), statements(api.Stmt{Uses: []string{}, Targets: []string{}})},
	} {
		if !syntax.Equal(c[0], c[1]) || !syntax.Equal(c[1], c[0]) || !syntax.Equal(c[1], c[1]) {
			t.Errorf("%v and %v are not equal", c[0], c[1])
		}
	}
	for _, c := range [][2]api.Program{
		{{}, {Funcs: make([]api.Func, 1)}},
		{program(api.Func{}), {Funcs: []api.Func{{Blocks: make([]api.Block, 1)}}}},
		{program(function("", api.Block{})), {Funcs: []api.Func{{Blocks: []api.Block{{Stmts: make([]api.Stmt, 1)}}}}}},
		{statements(api.Stmt{}), statements(api.Stmt{Uses: make([]string, 1)})},
		{statements(api.Stmt{}), statements(api.Stmt{Targets: make([]string, 1)})},
		{statements(use("x", "y")), statements(use("x", "y", ""))},
		{statements(use("xy")), statements(use("x", "y"))},
		{statements(use("x")), statements(api.Stmt{Op: api.OpUse, Targets: []string{"x"}})},
		{statements(assign("x")), statements(use("x"))},
	} {
		if syntax.Equal(c[0], c[1]) || syntax.Equal(c[1], c[0]) {
			t.Errorf("%v and %v are equal", c[0], c[1])
		}
	}
}

// P0.1: R2, the functions do not change their arguments, and what a caller does with a result changes no other one.
func TestNothingIsShared(t *testing.T) {
	p, q := everyProgram(), everyProgram()
	syntax.Valid(p)
	syntax.Equal(p, q)
	printed, inline := syntax.Print(p), syntax.Inline(p)
	if !same(p, q) || !same(q, everyProgram()) {
		t.Error("an argument has changed")
	}
	for _, field := range nameFields(p) {
		*field = "z"
	}
	if printed != syntax.Print(q) || inline != every {
		t.Error("a text has changed")
	}

	first, second := parse(every).program, parse(every).program
	for _, field := range nameFields(first) {
		*field = "z"
	}
	for i, f := range first.Funcs {
		for j, b := range f.Blocks {
			first.Funcs[i].Blocks[j].Stmts = append(b.Stmts, finish)
			for k := range b.Stmts {
				b.Stmts[k].Op = -1
			}
		}
		first.Funcs[i].Blocks = append(f.Blocks, api.Block{})
	}
	if !same(second, everyProgram()) || !same(parse(every).program, everyProgram()) {
		t.Error("a result has changed")
	}
}

// P0.1: R2, the lists of one result do not share memory, also beyond their ends.
func TestListsAreSeparate(t *testing.T) {
	p := parse(every).program
	for i, field := range nameFields(p) {
		q := parse(every).program
		*nameFields(q)[i] = "z"
		for j, other := range nameFields(q) {
			if j != i && *other != *nameFields(p)[j] {
				t.Errorf("the name %d changes the name %d (%s)", i, j, *field)
			}
		}
	}
	for _, f := range p.Funcs {
		for _, b := range f.Blocks {
			for _, s := range b.Stmts {
				_, _ = append(s.Uses, "z"), append(s.Targets, "z")
			}
			_ = append(b.Stmts, api.Stmt{Op: -1})
		}
		_ = append(f.Blocks, api.Block{Name: "z"})
	}
	_ = append(p.Funcs, api.Func{Name: "z"})
	if !same(p, everyProgram()) {
		t.Errorf("a list continues in another one: %v", p)
	}
}
