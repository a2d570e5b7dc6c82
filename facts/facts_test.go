package facts_test

import (
	"math"
	"math/rand/v2"
	"slices"
	"strconv"
	"strings"
	"testing"

	"flowquery/api"
	"flowquery/bitset"
	"flowquery/facts"
	"flowquery/nodes"
	"flowquery/syntax"
	"flowquery/validate"
)

// kinds are all kinds of analyses, and noKinds some other numbers.
var (
	kinds   = []int{api.KindReach, api.KindLive, api.KindTaint, api.KindUninit}
	noKinds = []int{0, 5, -1, 6, 257, math.MinInt, math.MaxInt}
)

// parse returns the program of a text that must be well formed.
func parse(t *testing.T, text string) api.Program {
	t.Helper()
	p, line, col, err := syntax.Parse(text)
	if err != api.OK {
		t.Fatalf("Parse(%q) is %v at %d, %d", text, err, line, col)
	}
	return p
}

// setOf returns a set with a width and members that must be permitted.
func setOf(t *testing.T, width int, members ...int) api.Set {
	t.Helper()
	s, err := bitset.Of(width, members)
	if err != api.OK {
		t.Fatalf("Of(%d, %v) is %v", width, members, err)
	}
	return s
}

// full returns the set of all bits below a width.
func full(t *testing.T, width int) api.Set {
	t.Helper()
	s, err := bitset.Full(width)
	if err != api.OK {
		t.Fatalf("Full(%d) is %v", width, err)
	}
	return s
}

// onlyVariables returns the facts of the numbers of variables.
func onlyVariables(count int) []api.Fact {
	var list []api.Fact
	for i := range count {
		list = append(list, api.Fact{Node: -1, Var: i})
	}
	return list
}

// occurring returns the variables in the words of a statement, and the one that it defines, or nothing.
func occurring(words []string) (names []string, defined string) {
	switch words[0] {
	case "use", "sink":
		return words[1:], ""
	case "source", "sanitize":
		return words[1:], words[1]
	case "branch":
		return words[1:2], ""
	case "call", "goto", "return":
		return nil, ""
	}
	return slices.Concat(words[:1], words[2:]), words[0]
}

// reference returns the facts of an analysis of a valid program and the text of each, from the lines of the program's text.
func reference(p api.Program, kind int) (list []api.Fact, texts []string) {
	var variables []string
	node, s, f, b := 0, 0, "", ""
	for _, line := range strings.Split(strings.TrimSuffix(syntax.Print(p), "\n"), "\n") {
		words := strings.Fields(line)
		switch words[0] {
		case "func":
			f = words[1]
			node++
		case "block":
			b, s = words[1], 0
		case "end":
			node++
		default:
			names, defined := occurring(words)
			for _, name := range names {
				if !slices.Contains(variables, name) {
					variables = append(variables, name)
				}
			}
			if kind == api.KindReach && defined != "" {
				list = append(list, api.Fact{Node: node, Var: slices.Index(variables, defined)})
				texts = append(texts, defined+"@"+f+"."+b+"."+strconv.Itoa(s))
			}
			node, s = node+1, s+1
			if words[0] == "call" {
				node++
			}
		}
	}
	if kind != api.KindReach {
		return onlyVariables(len(variables)), variables
	}
	return list, texts
}

// checkText compares Text of a set with what is expected.
func checkText(t *testing.T, p api.Program, kind int, s api.Set, want string, err api.Errno) {
	t.Helper()
	before := api.Set{Width: s.Width, Words: slices.Clone(s.Words)}
	if got, gotErr := facts.Text(p, kind, s); got != want || gotErr != err {
		t.Errorf("Text of %q, the kind %d and %v = %q, %v, want %q, %v", syntax.Inline(p), kind, s, got, gotErr, want, err)
	}
	if s.Width != before.Width || !slices.Equal(s.Words, before.Words) {
		t.Errorf("Text modified the set %v", before)
	}
}

// checkMembers compares Text of the set of these members with the texts of its facts.
func checkMembers(t *testing.T, p api.Program, kind int, texts []string, members ...int) {
	t.Helper()
	slices.Sort(members)
	var words []string
	for _, b := range slices.Compact(members) {
		words = append(words, texts[b])
	}
	checkText(t, p, kind, setOf(t, len(texts), members...), strings.Join(words, " "), api.OK)
}

// checkKind compares all functions with the reference, for one analysis of a valid program.
func checkKind(t *testing.T, p api.Program, kind int) {
	t.Helper()
	want, texts := reference(p, kind)
	got, err := facts.List(p, kind)
	if err != api.OK || !slices.Equal(got, want) {
		t.Fatalf("the facts of the kind %d of %q are %v, %v, want %v", kind, syntax.Inline(p), got, err, want)
	}
	for i, fact := range want {
		if index := facts.Index(got, fact); index != i {
			t.Errorf("Index of the fact %v of %q = %d, want %d", fact, syntax.Inline(p), index, i)
		}
		checkMembers(t, p, kind, texts, i)
	}
	checkMembers(t, p, kind, texts)
	checkText(t, p, kind, full(t, len(want)), strings.Join(texts, " "), api.OK)
	checkText(t, p, kind, full(t, len(want)+1), "", api.ErrWidth)
	if len(want) > 0 {
		checkText(t, p, kind, full(t, len(want)-1), "", api.ErrWidth)
		checkText(t, p, kind, api.Set{Width: len(want)}, "", api.ErrInvalid)
	}
}

// compare checks all analyses of the valid program of a text, and that the program is left as it is.
func compare(t *testing.T, text string) {
	t.Helper()
	p := parse(t, text)
	for _, kind := range kinds {
		checkKind(t, p, kind)
	}
	for _, kind := range noKinds {
		checkError(t, p, kind, api.ErrRange)
	}
	if !syntax.Equal(p, parse(t, text)) {
		t.Errorf("the program %q was modified", text)
	}
}

// sets returns valid sets of some widths, and sets that are not valid.
func sets(t *testing.T) []api.Set {
	t.Helper()
	return append(invalidSets(), setOf(t, 0), setOf(t, 1), setOf(t, 2, 0, 1), setOf(t, 3, 2), full(t, 64), full(t, 256))
}

// invalidSets returns sets that are not valid, some with the width 2.
func invalidSets() []api.Set {
	return []api.Set{
		{Width: 2}, {Width: 2, Words: []uint64{}}, {Width: 2, Words: []uint64{4}}, {Width: 2, Words: []uint64{math.MaxUint64}}, {Width: 2, Words: []uint64{1, 0}},
		{Words: []uint64{0}}, {Width: -1}, {Width: -1, Words: []uint64{0}}, {Width: 65, Words: []uint64{1}}, {Width: 257, Words: make([]uint64, 5)},
		{Width: math.MinInt}, {Width: math.MaxInt}, {Width: math.MaxInt, Words: []uint64{1}},
	}
}

// checkError checks that List and Text return an error, whatever the set is.
func checkError(t *testing.T, p api.Program, kind int, want api.Errno) {
	t.Helper()
	if list, err := facts.List(p, kind); len(list) > 0 || err != want {
		t.Errorf("the facts of the kind %d of %v are %v, %v, want the error %v", kind, p, list, err, want)
	}
	for _, s := range sets(t) {
		checkText(t, p, kind, s, "", want)
	}
}

// rejects checks that a program that is not valid has no facts, for all kinds and other numbers, but the error of Check.
func rejects(t *testing.T, p api.Program, want api.Errno) {
	t.Helper()
	if _, err := validate.Check(p); err != want {
		t.Errorf("Check of %v is %v, want %v", p, err, want)
	}
	for _, kind := range slices.Concat(kinds, noKinds) {
		checkError(t, p, kind, want)
	}
}

// P9.1, P9.3: the examples of the chapter.
func TestExamples(t *testing.T) {
	text := "func m; block b; x = y; sanitize x; return; end"
	p := parse(t, text)
	list, err := facts.List(p, api.KindReach)
	if err != api.OK || !slices.Equal(list, []api.Fact{{Node: 1, Var: 0}, {Node: 2, Var: 0}}) {
		t.Errorf("the first example has the facts %v, %v of KindReach", list, err)
	}
	for _, kind := range []int{api.KindLive, api.KindTaint, api.KindUninit} {
		list, err := facts.List(p, kind)
		if err != api.OK || !slices.Equal(list, []api.Fact{{Node: -1, Var: 0}, {Node: -1, Var: 1}}) {
			t.Errorf("the first example has the facts %v, %v of the kind %d", list, err, kind)
		}
	}
	checkText(t, p, api.KindReach, setOf(t, 2, 0), "x@m.b.0", api.OK)
	checkError(t, p, 5, api.ErrRange)
	compare(t, text)
}

// P9.1: the facts of KindReach are in the order of the nodes, and their variables in that of the first occurrences; the facts
// of the other kinds are the variables.
func TestList(t *testing.T) {
	for _, c := range []struct {
		text      string
		reach     []api.Fact
		variables int
	}{
		{"func m; block b; return; end", nil, 0},
		{"func m; block b; call m; goto b; end", nil, 0},
		{"func m; block b; use x y; sink z; branch w b b; end", nil, 4},
		{"func m; block b; x =; return; end", []api.Fact{{Node: 1, Var: 0}}, 1},
		{"func m; block b; x = x x; return; end", []api.Fact{{Node: 1, Var: 0}}, 1},
		{"func m; block b; source x; return; end", []api.Fact{{Node: 1, Var: 0}}, 1},
		{"func m; block b; sanitize x; return; end", []api.Fact{{Node: 1, Var: 0}}, 1},
		{"func m; block b; use y; x = y; z = x; return; end", []api.Fact{{Node: 2, Var: 1}, {Node: 3, Var: 2}}, 3},
		{"func m; block b; x = y z; z = w; y =; w = v; return; end", []api.Fact{{Node: 1, Var: 0}, {Node: 2, Var: 2}, {Node: 3, Var: 1}, {Node: 4, Var: 3}}, 5},
		{"func m; block b; call m; x = y; call m; call m; source y; return; end", []api.Fact{{Node: 3, Var: 0}, {Node: 8, Var: 1}}, 2},
		{"func m; block b; branch z c b; block c; sanitize y; z =; return; end", []api.Fact{{Node: 2, Var: 1}, {Node: 3, Var: 0}}, 2},
		{"func m; block b; call f; use x; return; end; func f; block b; x = y; return; end", []api.Fact{{Node: 7, Var: 0}}, 2},
		{"func f; block b; y = x; return; end; func m; block b; x = y; return; block c; source z; x =; goto b; end", []api.Fact{{Node: 1, Var: 0}, {Node: 5, Var: 1}, {Node: 7, Var: 2}, {Node: 8, Var: 1}}, 3},
	} {
		p := parse(t, c.text)
		if got, err := facts.List(p, api.KindReach); err != api.OK || !slices.Equal(got, c.reach) {
			t.Errorf("the facts of KindReach of %q are %v, %v, want %v", c.text, got, err, c.reach)
		}
		for _, kind := range []int{api.KindLive, api.KindTaint, api.KindUninit} {
			if got, err := facts.List(p, kind); err != api.OK || !slices.Equal(got, onlyVariables(c.variables)) {
				t.Errorf("the facts of the kind %d of %q are %v, %v, want %d", kind, c.text, got, err, c.variables)
			}
		}
		compare(t, c.text)
	}
}

// P9.1, P9.3: each operation alone, in a program in which its names are those of functions and blocks, too.
func TestOperations(t *testing.T) {
	for line, defines := range map[string]bool{
		"b =": true, "b = m": true, "x = b m y x": true, "source b": true, "sanitize m": true,
		"use b": false, "use m b x y": false, "sink x": false, "call m": false, "call b": false,
	} {
		text := "func m; block b; " + line + "; return; end; func b; block m; return; end"
		list, err := facts.List(parse(t, text), api.KindReach)
		if err != api.OK || (len(list) == 1) != defines || len(list) > 1 {
			t.Errorf("the facts of KindReach of %q are %v, %v", text, list, err)
		}
		compare(t, text)
	}
	for _, line := range []string{"return", "goto b", "branch b b m", "branch x m m"} {
		compare(t, "func m; block b; "+line+"; block m; "+line+"; end")
	}
}

// P9.1, P9.3, R4: numbers that are no kinds, also with sets that are not valid or have another width.
func TestKinds(t *testing.T) {
	p := parse(t, "func m; block b; x = y; sanitize x; return; end")
	for kind := -300; kind <= 300; kind++ {
		want := api.OK
		if kind < 1 || kind > 4 {
			want = api.ErrRange
			checkError(t, p, kind, want)
		}
		if list, err := facts.List(p, kind); err != want || (len(list) == 2) != (want == api.OK) {
			t.Errorf("the facts of the kind %d are %v, %v", kind, list, err)
		}
	}
	for _, kind := range noKinds {
		checkError(t, p, kind, api.ErrRange)
		checkError(t, parse(t, "func m; block b; return; end"), kind, api.ErrRange)
	}
}

// P9.1, P9.3, R4, R5: programs that follow the grammar but that Check rejects have no facts.
func TestRejectedPrograms(t *testing.T) {
	for text, want := range map[string]api.Errno{
		"func m; block b; x = y; return; end; func m; block b; return; end": api.ErrDuplicate,
		"func m; block b; source x; return; block b; return; end":           api.ErrDuplicate,
		"func m; block b; x = y; end":                                       api.ErrSyntax,
		"func m; block b; x = y; return; sanitize x; return; end":           api.ErrSyntax,
		"func m; block b; x = y; goto c; end":                               api.ErrName,
		"func m; block b; x = y; call x; return; end":                       api.ErrName,
		"func m; block b; x =; return; end; func f; block b; goto c; end":   api.ErrName,
		"func m; block b; x =; goto b; end; func f; block b; x =; end":      api.ErrSyntax,
	} {
		p := parse(t, text)
		rejects(t, p, want)
		if !syntax.Equal(p, parse(t, text)) {
			t.Errorf("the program %q was modified", text)
		}
	}
}

// P9.1, P9.3, R1, R5: programs that are not well formed have no facts.
func TestNotWellFormed(t *testing.T) {
	of := func(stmts ...api.Stmt) api.Program {
		return api.Program{Funcs: []api.Func{{Name: "m", Blocks: []api.Block{{Name: "b", Stmts: stmts}}}}}
	}
	define, finish := api.Stmt{Op: api.OpAssign, Def: "x"}, api.Stmt{Op: api.OpReturn}
	for _, p := range []api.Program{
		{}, {Funcs: []api.Func{}}, {Funcs: make([]api.Func, 2)}, {Funcs: []api.Func{{Name: "m"}}}, {Funcs: []api.Func{{Name: "m", Blocks: make([]api.Block, 2)}}},
		{Funcs: append(of(define, finish).Funcs, api.Func{Name: "f"})}, {Funcs: slices.Repeat(of(define, finish).Funcs, 9)},
		of(), of(api.Stmt{}), of(define, api.Stmt{Op: 10}), of(api.Stmt{Op: math.MinInt, Def: "x"}, finish), of(api.Stmt{Op: api.OpAssign}, finish), of(api.Stmt{Op: api.OpSource}, finish),
		of(define, api.Stmt{Op: api.OpReturn, Def: "x"}), of(api.Stmt{Op: api.OpUse, Def: "x", Uses: []string{"y"}}, finish), of(api.Stmt{Op: api.OpAssign, Def: "func"}, finish),
		of(append(slices.Repeat([]api.Stmt{define}, 32), finish)...),
	} {
		rejects(t, p, api.ErrInvalid)
	}
}

// P9.2: Index compares both fields, and returns the first of equal elements, also in lists that no program has.
func TestIndex(t *testing.T) {
	list := []api.Fact{{Node: 1, Var: 0}, {Node: 2, Var: 0}, {Node: -1, Var: 0}, {Node: 2, Var: 1}, {Node: 2, Var: 0}, {}, {Node: -1, Var: 0}, {Node: math.MinInt, Var: math.MaxInt}, {}}
	before := slices.Clone(list)
	for _, c := range []struct {
		fact api.Fact
		want int
	}{
		{api.Fact{Node: 1}, 0}, {api.Fact{Node: 2}, 1}, {api.Fact{Node: -1}, 2}, {api.Fact{Node: 2, Var: 1}, 3}, {api.Fact{}, 5}, {api.Fact{Node: math.MinInt, Var: math.MaxInt}, 7},
		{api.Fact{Node: 1, Var: 1}, -1}, {api.Fact{Var: 1}, -1}, {api.Fact{Node: -1, Var: 1}, -1}, {api.Fact{Node: 3}, -1}, {api.Fact{Var: -1}, -1}, {api.Fact{Node: math.MaxInt, Var: math.MinInt}, -1},
		{api.Fact{Node: math.MinInt}, -1}, {api.Fact{Var: math.MaxInt}, -1},
	} {
		if got := facts.Index(list, c.fact); got != c.want {
			t.Errorf("Index of %v = %d, want %d", c.fact, got, c.want)
		}
		for _, none := range [][]api.Fact{nil, {}} {
			if got := facts.Index(none, c.fact); got != -1 {
				t.Errorf("Index of %v in an empty list = %d", c.fact, got)
			}
		}
	}
	if !slices.Equal(list, before) {
		t.Errorf("Index modified the list %v", before)
	}
	long := append(make([]api.Fact, 1000), api.Fact{Node: 7, Var: 7})
	if got := facts.Index(long, api.Fact{Node: 7, Var: 7}); got != 1000 {
		t.Errorf("Index of the last element of a long list = %d", got)
	}
}

// P9.3: the names of the members in ascending order, for KindReach with the labels of the nodes, separated by single spaces.
func TestText(t *testing.T) {
	p := parse(t, "func main; block b_1; use last; x = last y; call F; goto c; block c; source y; sanitize x; return; end; func F; block c; x =; return; end")
	for _, c := range []struct {
		kind    int
		members []int
		width   int
		want    string
	}{
		{api.KindReach, nil, 4, ""}, {api.KindReach, []int{0}, 4, "x@main.b_1.1"}, {api.KindReach, []int{1}, 4, "y@main.c.0"}, {api.KindReach, []int{3}, 4, "x@F.c.0"},
		{api.KindReach, []int{3, 0, 2}, 4, "x@main.b_1.1 x@main.c.1 x@F.c.0"}, {api.KindReach, []int{0, 1, 2, 3}, 4, "x@main.b_1.1 y@main.c.0 x@main.c.1 x@F.c.0"},
		{api.KindLive, nil, 3, ""}, {api.KindLive, []int{0}, 3, "last"}, {api.KindTaint, []int{2, 1}, 3, "x y"}, {api.KindUninit, []int{0, 2}, 3, "last y"}, {api.KindTaint, []int{0, 1, 2}, 3, "last x y"},
	} {
		checkText(t, p, c.kind, setOf(t, c.width, c.members...), c.want, api.OK)
	}
}

// P9.3, R4: sets that are not valid or have another width; the first of these errors is returned if both apply.
func TestTextErrors(t *testing.T) {
	p := parse(t, "func m; block b; use z; x = y; sanitize x; return; end")
	for _, s := range invalidSets() {
		for _, kind := range kinds {
			checkText(t, p, kind, s, "", api.ErrInvalid)
		}
	}
	for width := range api.MaxWidth + 1 {
		for _, s := range []api.Set{setOf(t, width), full(t, width)} {
			for _, kind := range kinds {
				_, texts := reference(p, kind)
				if width != len(texts) {
					checkText(t, p, kind, s, "", api.ErrWidth)
				}
			}
		}
	}
	none := parse(t, "func m; block b; return; end")
	for _, kind := range kinds {
		checkText(t, none, kind, api.Set{}, "", api.OK)
		checkText(t, none, kind, api.Set{Words: []uint64{}}, "", api.OK)
		checkText(t, none, kind, setOf(t, 1), "", api.ErrWidth)
		checkText(t, none, kind, api.Set{Words: []uint64{0}}, "", api.ErrInvalid)
	}
}

// long returns the text of a program of one function with these lines, 31 in a block, each of which ends with a return.
func long(lines []string) string {
	text := "func m"
	for part := range slices.Chunk(lines, 31) {
		text += "; block b" + strconv.Itoa(strings.Count(text, "block")) + "; " + strings.Join(part, "; ") + "; return"
	}
	return text + "; end"
}

// P9.1, P9.3: programs with MaxNodes nodes and with MaxVars variables, and with one more; sets of several words. The largest
// number of facts is that of the program whose MaxNodes nodes are an entry, an exit, eight terminators and 246 definitions.
func TestLimits(t *testing.T) {
	text := long(slices.Repeat([]string{"x ="}, 246))
	list, err := facts.List(parse(t, text), api.KindReach)
	if err != api.OK || len(list) != 246 || list[245] != (api.Fact{Node: 253, Var: 0}) {
		t.Errorf("the largest program has the facts %v, %v", list, err)
	}
	compare(t, text)
	rejects(t, parse(t, long(slices.Repeat([]string{"x ="}, 247))), api.ErrFull)
	var lines []string
	for i := range 64 {
		lines = append(lines, "v"+strconv.Itoa(63-i)+" = v"+strconv.Itoa(63-i/2))
	}
	text = long(lines)
	for _, kind := range kinds {
		if list, err := facts.List(parse(t, text), kind); err != api.OK || len(list) != 64 {
			t.Errorf("the program with the most variables has the facts %v, %v of the kind %d", list, err, kind)
		}
	}
	compare(t, text)
	rejects(t, parse(t, long(append(lines, "use w"))), api.ErrFull)
	compare(t, long(slices.Repeat([]string{"x = y", "use z", "source y"}, 48)))
}

// generate returns the text of a program that is valid unless it has too many nodes.
func generate(r *rand.Rand) string {
	pick := func(list ...string) string { return list[r.IntN(len(list))] }
	variable := func() string { return pick("x", "y", "z", "m", "b0", "Use", "v"+strconv.Itoa(r.IntN(30))) }
	funcs := []string{"m", "f", "b0", "entry", "h"}[:1+r.IntN(5)]
	text := ""
	for _, f := range funcs {
		text += "func " + f + "\n"
		blocks := []string{"b0", "b1", "x", "exit", "m", "c"}[:1+r.IntN(6)]
		for _, b := range blocks {
			text += "block " + b + "\n"
			for range r.IntN(1 + r.IntN(31)) {
				text += pick(variable()+" =", variable()+" = "+variable(), variable()+" = "+variable()+" "+variable(), "use "+variable()+" "+variable(), "call "+pick(funcs...),
					"source "+variable(), "sink "+variable(), "sanitize "+variable()) + "\n"
			}
			text += pick("return", "goto "+pick(blocks...), "branch "+variable()+" "+pick(blocks...)+" "+pick(blocks...)) + "\n"
		}
		text += "end\n"
	}
	return text
}

// P9.1 to P9.3: larger programs, compared with the reference, with sets of some facts, and the consequence of the chapter.
func TestGeneratedPrograms(t *testing.T) {
	r := rand.New(rand.NewPCG(9, 1))
	valid := 0
	for range 150 {
		text := generate(r)
		p := parse(t, text)
		if _, err := validate.Check(p); err != api.OK {
			rejects(t, p, api.ErrFull)
			continue
		}
		valid++
		compare(t, text)
		for _, kind := range kinds {
			_, texts := reference(p, kind)
			var members []int
			for b := range texts {
				if r.IntN(3) == 0 {
					members = append(members, b)
				}
			}
			checkMembers(t, p, kind, texts, members...)
		}
		defining := 0
		for _, node := range nodes.List(p) {
			if s, ok := nodes.Stmt(p, node); ok && validate.Defines(s) {
				defining++
			}
		}
		if list, err := facts.List(p, api.KindReach); err != api.OK || len(list) != defining {
			t.Errorf("%q has %d facts of KindReach, %v, but %d statements that define a variable", text, len(list), err, defining)
		}
	}
	if valid < 100 || valid == 150 {
		t.Errorf("%d programs are valid", valid)
	}
}

// R2: the facts of two calls share no memory.
func TestMemory(t *testing.T) {
	p := parse(t, "func m; block b; x = y; source z; return; end")
	for _, kind := range kinds {
		first, _ := facts.List(p, kind)
		second, _ := facts.List(p, kind)
		clear(first[:cap(first)])
		want, _ := reference(p, kind)
		if third, err := facts.List(p, kind); err != api.OK || !slices.Equal(second, want) || !slices.Equal(third, want) {
			t.Errorf("the facts of the kind %d share memory: %v, %v, %v", kind, second, third, err)
		}
	}
}

// R3: a nil list and an empty one are equal.
func TestEmptyLists(t *testing.T) {
	p := parse(t, "func m; block b; x =; source y; return; end")
	for i := range p.Funcs[0].Blocks[0].Stmts {
		s := &p.Funcs[0].Blocks[0].Stmts[i]
		s.Uses, s.Targets = []string{}, []string{}
	}
	for _, kind := range kinds {
		checkKind(t, p, kind)
	}
}
