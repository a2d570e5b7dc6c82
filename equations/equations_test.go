package equations_test

import (
	"math"
	"math/rand/v2"
	"reflect"
	"slices"
	"strconv"
	"strings"
	"testing"

	"flowquery/api"
	"flowquery/bitset"
	"flowquery/equations"
	"flowquery/facts"
	"flowquery/graph"
	"flowquery/syntax"
	"flowquery/transfer"
	"flowquery/validate"
)

// kinds are all kinds of analyses, and noKinds some other numbers.
var (
	kinds   = []int{api.KindReach, api.KindLive, api.KindTaint, api.KindUninit}
	noKinds = []int{0, 5, -1, 6, 257, math.MinInt, math.MaxInt}
)

// parse returns the program of a text that must be well formed.
func parse(t *testing.T, text string) api.Program {
	t.Helper()
	p, line, col, err := syntax.Parse(text)
	if err != api.OK {
		t.Fatalf("Parse(%q) is %v at %d, %d", text, err, line, col)
	}
	return p
}

// setOf returns a set with a width and members that must be permitted.
func setOf(t *testing.T, width int, members ...int) api.Set {
	t.Helper()
	s, err := bitset.Of(width, members)
	if err != api.OK {
		t.Fatalf("Of(%d, %v) is %v", width, members, err)
	}
	return s
}

// full returns the set of all bits below a width.
func full(t *testing.T, width int) api.Set {
	t.Helper()
	s, err := bitset.Full(width)
	if err != api.OK {
		t.Fatalf("Full(%d) is %v", width, err)
	}
	return s
}

// identity returns the identity of a permitted width.
func identity(t *testing.T, width int) api.Transfer {
	t.Helper()
	f, err := transfer.Identity(width)
	if err != api.OK {
		t.Fatalf("Identity(%d) is %v", width, err)
	}
	return f
}

// union returns the union of two sets that must be valid and have the same width.
func union(t *testing.T, a, b api.Set) api.Set {
	t.Helper()
	s, err := bitset.Union(a, b)
	if err != api.OK {
		t.Fatalf("Union of %v and %v is %v", a, b, err)
	}
	return s
}

// show writes a function: what it generates, what it kills, and its copies.
func show(f api.Transfer) string {
	text := bitset.Text(f.Gen) + " " + bitset.Text(f.Kill)
	for _, c := range f.Copies {
		text += " " + strconv.Itoa(c.From) + ">" + strconv.Itoa(c.To)
	}
	return text
}

// system returns the system of an analysis of a program that must have one.
func system(t *testing.T, p api.Program, kind int) api.System {
	t.Helper()
	s, err := equations.Of(p, kind)
	if err != api.OK {
		t.Fatalf("the system of the kind %d of %q is %v", kind, syntax.Inline(p), err)
	}
	return s
}

// checkFunctions compares the functions of all nodes, of an analysis of the program of a text, with written-out ones.
func checkFunctions(t *testing.T, text string, kind int, want ...string) {
	t.Helper()
	var got []string
	for _, f := range system(t, parse(t, text), kind).Transfers {
		got = append(got, show(f))
	}
	if !slices.Equal(got, want) {
		t.Errorf("the functions of the kind %d of %q are %q, want %q", kind, text, got, want)
	}
}

// sameLists reports whether two lists of lists are equal.
func sameLists(a, b [][]int) bool { return slices.EqualFunc(a, b, slices.Equal) }

// linesOfNodes returns the words of the statement of each node, in the order of the nodes, and nil for those whose function
// must be the identity whatever they are.
func linesOfNodes(p api.Program) [][]string {
	var lines [][]string
	for _, line := range strings.Split(strings.TrimSuffix(syntax.Print(p), "\n"), "\n") {
		words := strings.Fields(line)
		switch words[0] {
		case "func", "end":
			lines = append(lines, nil)
		case "block":
		case "call":
			lines = append(lines, nil, nil)
		case "goto", "return":
			lines = append(lines, nil)
		default:
			lines = append(lines, words)
		}
	}
	return lines
}

// defUse returns the variable that the words of a statement define, or nothing, and those that they use.
func defUse(words []string) (def string, uses []string) {
	switch words[0] {
	case "source", "sanitize":
		return words[1], nil
	case "use", "sink":
		return "", words[1:]
	case "branch":
		return "", words[1:2]
	}
	return words[0], words[2:]
}

// after returns what holds behind a node (in the direction of the analysis) if the given facts hold before it, from the words
// of its statement. Facts are written as texts: a variable, for KindReach with the number of the node.
func after(kind, node int, words []string, holds map[string]bool) map[string]bool {
	result := map[string]bool{}
	for fact := range holds {
		result[fact] = true
	}
	if words == nil {
		return result
	}
	def, uses := defUse(words)
	for fact := range result {
		if name, _, _ := strings.Cut(fact, "@"); name == def {
			delete(result, fact)
		}
	}
	switch {
	case kind == api.KindReach && def != "":
		result[def+"@"+strconv.Itoa(node)] = true
	case kind == api.KindLive:
		for _, u := range uses {
			result[u] = true
		}
	case kind == api.KindTaint && words[0] == "source":
		result[def] = true
	case (kind == api.KindTaint || kind == api.KindUninit) && def != "":
		if slices.ContainsFunc(uses, func(u string) bool { return holds[u] }) {
			result[def] = true
		}
	}
	return result
}

// textsOf returns the text of each fact, as after writes them.
func textsOf(p api.Program, list []api.Fact) []string {
	variables := validate.Variables(p)
	var texts []string
	for _, f := range list {
		text := variables[f.Var]
		if f.Node >= 0 {
			text += "@" + strconv.Itoa(f.Node)
		}
		texts = append(texts, text)
	}
	return texts
}

// checkFunction compares a function with after, for the empty set, the full set and all sets of one bit, and checks that it is
// canonical.
func checkFunction(t *testing.T, f api.Transfer, texts []string, kind, node int, words []string) {
	t.Helper()
	arguments := []api.Set{setOf(t, len(texts)), full(t, len(texts))}
	for b := range texts {
		arguments = append(arguments, setOf(t, len(texts), b))
	}
	for _, s := range arguments {
		holds := map[string]bool{}
		for _, b := range bitset.Members(s) {
			holds[texts[b]] = true
		}
		var want []int
		behind := after(kind, node, words, holds)
		for b, text := range texts {
			if behind[text] {
				want = append(want, b)
			}
		}
		got, err := transfer.Apply(f, s)
		if err != api.OK || got.Width != len(texts) || !slices.Equal(bitset.Members(got), want) {
			t.Errorf("the function of the kind %d of %v (node %d) is %v, %v for %v, want %v", kind, words, node, bitset.Text(got), err, bitset.Text(s), want)
		}
	}
	if canon, err := transfer.Canon(f); err != api.OK || show(canon) != show(f) {
		t.Errorf("the function %s is not canonical: %s, %v", show(f), show(canon), err)
	}
}

// checkSystem compares the system of an analysis with the graph of a valid program and with its printed text.
func checkSystem(t *testing.T, p api.Program, kind int) {
	t.Helper()
	s := system(t, p, kind)
	g, err := graph.Build(p)
	if err != api.OK {
		t.Fatalf("Build of %q is %v", syntax.Inline(p), err)
	}
	deps := g.Pred
	if kind == api.KindLive {
		deps = g.Succ
	}
	if !sameLists(s.Deps, deps) || equations.Edges(s) != graph.Edges(g) || !equations.Valid(s) {
		t.Errorf("the system of the kind %d of %q has the dependencies %v (%d), want %v", kind, syntax.Inline(p), s.Deps, equations.Edges(s), deps)
	}
	list, err := facts.List(p, kind)
	if err != api.OK || s.Width != len(list) || len(s.Boundary) != len(g.Nodes) || len(s.Transfers) != len(g.Nodes) {
		t.Fatalf("the system of the kind %d of %q has the sizes %d, %d, %d, %v", kind, syntax.Inline(p), s.Width, len(s.Boundary), len(s.Transfers), err)
	}
	texts, lines := textsOf(p, list), linesOfNodes(p)
	for i := range g.Nodes {
		boundary := setOf(t, len(list))
		if i == 0 && kind == api.KindUninit {
			boundary = full(t, len(list))
		}
		if !bitset.Equal(s.Boundary[i], boundary) {
			t.Errorf("the boundary of the unknown %d of the kind %d of %q is %v", i, kind, syntax.Inline(p), s.Boundary[i])
		}
		checkFunction(t, s.Transfers[i], texts, kind, i, lines[i])
	}
}

// compare checks all analyses of the valid program of a text, and that the program is left as it is.
func compare(t *testing.T, text string) {
	t.Helper()
	p := parse(t, text)
	for _, kind := range kinds {
		checkSystem(t, p, kind)
	}
	if !syntax.Equal(p, parse(t, text)) {
		t.Errorf("the program %q was modified", text)
	}
}

// rejects checks that a program that is not valid has no system, for all kinds and other numbers, but the error of Check.
func rejects(t *testing.T, p api.Program, want api.Errno) {
	t.Helper()
	if _, err := validate.Check(p); err != want {
		t.Errorf("Check of %v is %v, want %v", p, err, want)
	}
	for _, kind := range slices.Concat(kinds, noKinds) {
		checkNone(t, p, kind, want)
	}
}

// checkNone checks that Of returns an error and the zero system.
func checkNone(t *testing.T, p api.Program, kind int, want api.Errno) {
	t.Helper()
	if s, err := equations.Of(p, kind); err != want || !reflect.DeepEqual(s, api.System{}) {
		t.Errorf("the system of the kind %d of %v is %v, %v, want the error %v", kind, p, s, err, want)
	}
}

// P10.1, P10.2: the examples of the chapter.
func TestExamples(t *testing.T) {
	text := "func m; block b; x = y; return; end"
	p := parse(t, text)
	checkFunctions(t, text, api.KindTaint, "/2 /2", "/2 0/2 1>0", "/2 /2", "/2 /2")
	if s := system(t, p, api.KindLive); !slices.Equal(s.Deps[0], []int{1}) {
		t.Errorf("the unknown 0 of KindLive depends on %v", s.Deps[0])
	}
	loop := api.System{Width: 1, Deps: [][]int{{0}}, Transfers: []api.Transfer{identity(t, 1)}, Boundary: []api.Set{setOf(t, 1)}}
	if !equations.Valid(loop) || equations.Edges(loop) != 1 {
		t.Errorf("the unknown that depends on itself has %d edges", equations.Edges(loop))
	}
	compare(t, text)
}

// P10.1: the function of each operation in each analysis. The variables are x, y, z and w in this order; KindReach has the
// facts of x at 1, of y at 2, of x at 3 (where the statement is) and at 4.
func TestTable(t *testing.T) {
	for _, c := range []struct{ line, reach, live, taint, uninit string }{
		{"x = y", "2/4 0,2,3/4", "1/4 0,1/4", "/4 0/4 1>0", "/4 0/4 1>0"},
		{"x =", "2/4 0,2,3/4", "/4 0/4", "/4 0/4", "/4 0/4"},
		{"x = x", "2/4 0,2,3/4", "0/4 0/4", "/4 /4", "/4 /4"},
		{"x = z x", "2/4 0,2,3/4", "0,2/4 0,2/4", "/4 /4 2>0", "/4 /4 2>0"},
		{"x = w y w z", "2/4 0,2,3/4", "1,2,3/4 0,1,2,3/4", "/4 0/4 1>0 2>0 3>0", "/4 0/4 1>0 2>0 3>0"},
		{"x = y y y y", "2/4 0,2,3/4", "1/4 0,1/4", "/4 0/4 1>0", "/4 0/4 1>0"},
		{"source x", "2/4 0,2,3/4", "/4 0/4", "0/4 0/4", "/4 0/4"},
		{"sanitize x", "2/4 0,2,3/4", "/4 0/4", "/4 0/4", "/4 0/4"},
	} {
		before, behind := "func m; block b; x =; y = z w; ", "; x = w; return; end"
		for kind, want := range map[int]string{api.KindReach: c.reach, api.KindLive: c.live, api.KindTaint: c.taint, api.KindUninit: c.uninit} {
			if got := show(system(t, parse(t, before+c.line+behind), kind).Transfers[3]); got != want {
				t.Errorf("the function of the kind %d of %q is %s, want %s", kind, c.line, got, want)
			}
		}
		compare(t, before+c.line+behind)
	}
	for line, live := range map[string]string{"use y": "1/4 1/4", "use w x y": "0,1,3/4 0,1,3/4", "use z z": "2/4 2/4", "sink w": "3/4 3/4", "call m": "/4 /4"} {
		text := "func m; block b; x =; y = z w; " + line + "; x = w; return; end"
		for _, kind := range kinds {
			want := "/4 /4"
			if kind == api.KindLive {
				want = live
			} else if kind == api.KindReach {
				want = "/3 /3"
			}
			if got := show(system(t, parse(t, text), kind).Transfers[3]); got != want {
				t.Errorf("the function of the kind %d of %q is %s, want %s", kind, line, got, want)
			}
		}
		compare(t, text)
	}
}

// P10.1: the functions of all nodes, among them entries, exits, terminators, calls and the nodes to which they return.
func TestNodes(t *testing.T) {
	text := "func m; block b; source x; call f; branch y b c; block c; goto d; block d; return; end; func f; block b; y = x; sink y; return; end"
	checkFunctions(t, text, api.KindReach, "/2 /2", "0/2 0/2", "/2 /2", "/2 /2", "/2 /2", "/2 /2", "/2 /2", "/2 /2", "/2 /2", "1/2 1/2", "/2 /2", "/2 /2", "/2 /2")
	checkFunctions(t, text, api.KindLive, "/2 /2", "/2 0/2", "/2 /2", "/2 /2", "1/2 1/2", "/2 /2", "/2 /2", "/2 /2", "/2 /2", "0/2 0,1/2", "1/2 1/2", "/2 /2", "/2 /2")
	checkFunctions(t, text, api.KindTaint, "/2 /2", "0/2 0/2", "/2 /2", "/2 /2", "/2 /2", "/2 /2", "/2 /2", "/2 /2", "/2 /2", "/2 1/2 0>1", "/2 /2", "/2 /2", "/2 /2")
	checkFunctions(t, text, api.KindUninit, "/2 /2", "/2 0/2", "/2 /2", "/2 /2", "/2 /2", "/2 /2", "/2 /2", "/2 /2", "/2 /2", "/2 1/2 0>1", "/2 /2", "/2 /2", "/2 /2")
	compare(t, text)
	checkFunctions(t, "func m; block b; return; end", api.KindReach, "/0 /0", "/0 /0", "/0 /0")
	checkFunctions(t, "func m; block b; use x; return; end", api.KindReach, "/0 /0", "/0 /0", "/0 /0", "/0 /0")
	checkFunctions(t, "func m; block b; call m; return; end", api.KindUninit, "/0 /0", "/0 /0", "/0 /0", "/0 /0", "/0 /0")
}

// P10.1: the dependencies are the predecessors, for KindLive the successors, and only the boundary of the node 0 for KindUninit
// is full.
func TestDependencies(t *testing.T) {
	for _, c := range []struct {
		text       string
		pred, succ [][]int
	}{
		{"func m; block b; return; end", [][]int{nil, {0}, {1}}, [][]int{{1}, {2}, nil}},
		{"func m; block b; branch x b b; end", [][]int{nil, {0, 1}, nil}, [][]int{{1}, {1}, nil}},
		{"func m; block b; call m; return; end", [][]int{{1}, {0}, {4}, {2}, {3}}, [][]int{{1}, {0}, {3}, {4}, {2}}},
		{"func m; block b; x = y; branch x c b; block c; sink x; return; end", [][]int{nil, {0, 2}, {1}, {2}, {3}, {4}}, [][]int{{1}, {2}, {1, 3}, {4}, {5}, nil}},
		{"func m; block b; call n; call n; return; end; func n; block b; source x; return; end", [][]int{nil, {0}, {10}, {2}, {10}, {4}, {5}, {1, 3}, {7}, {8}, {9}}, [][]int{{1}, {7}, {3}, {7}, {5}, {6}, nil, {8}, {9}, {10}, {2, 4}}},
	} {
		p := parse(t, c.text)
		for _, kind := range kinds {
			want := c.pred
			if kind == api.KindLive {
				want = c.succ
			}
			s := system(t, p, kind)
			if !sameLists(s.Deps, want) {
				t.Errorf("the unknowns of the kind %d of %q depend on %v, want %v", kind, c.text, s.Deps, want)
			}
			for n, boundary := range s.Boundary {
				if isFull := kind == api.KindUninit && n == 0; (bitset.Count(boundary) > 0) != (isFull && s.Width > 0) || isFull && bitset.Count(boundary) != s.Width {
					t.Errorf("the boundary of the unknown %d of the kind %d of %q is %v", n, kind, c.text, boundary)
				}
			}
		}
		compare(t, c.text)
	}
}

// solve returns the least solution of a system by rounds of right sides.
func solve(t *testing.T, s api.System) []api.Set {
	t.Helper()
	values := make([]api.Set, len(s.Deps))
	for n := range values {
		values[n] = setOf(t, s.Width)
	}
	for changed := true; changed; {
		changed = false
		for n := range values {
			next, err := equations.Right(s, values, n)
			if err != api.OK {
				t.Fatalf("Right of %d is %v", n, err)
			}
			changed = changed || !bitset.Equal(next, values[n])
			values[n] = next
		}
	}
	return values
}

// P10.1, P10.3, P0.2: answers of the document's examples, and others, as solutions of the systems.
func TestAnswers(t *testing.T) {
	for _, c := range []struct {
		text string
		kind int
		node int
		want string
	}{
		{"func m; block b; source x; y = x; return; end", api.KindTaint, 3, "x y"},
		{"func m; block b; source x; sanitize x; y = x; return; end", api.KindTaint, 4, ""},
		{"func m; block b; branch x b c; block c; use y; return; end", api.KindLive, 0, "x y"},
		{"func m; block b; branch x b c; block c; use y; return; end", api.KindLive, 1, "x y"},
		{"func m; block b; branch x b c; block c; use y; return; end", api.KindLive, 2, ""},
		{"func m; block b; call f; use x; return; end; func f; block b; x = y; return; end", api.KindReach, 3, "x@f.b.0"},
		{"func m; block b; x = y; sink x; x =; return; end", api.KindReach, 2, "x@m.b.0"},
		{"func m; block b; x = y; sink x; x =; return; end", api.KindReach, 4, "x@m.b.2"},
		{"func m; block b; x = y; sink x; x =; return; end", api.KindUninit, 1, "x y"},
		{"func m; block b; x = y; sink x; x =; return; end", api.KindUninit, 2, "x y"},
		{"func m; block b; x = y; sink x; x =; return; end", api.KindUninit, 4, "y"},
		{"func m; block b; x =; return; end; func f; block b; use x; return; end", api.KindUninit, 4, ""},
	} {
		p := parse(t, c.text)
		value := solve(t, system(t, p, c.kind))[c.node]
		if got, err := facts.Text(p, c.kind, value); err != api.OK || got != c.want {
			t.Errorf("the kind %d of %q has %q, %v at the node %d, want %q", c.kind, c.text, got, err, c.node, c.want)
		}
	}
}

// P10.1, R4, R5: numbers that are no kinds.
func TestKinds(t *testing.T) {
	for _, text := range []string{"func m; block b; x = y; sanitize x; return; end", "func m; block b; return; end"} {
		p := parse(t, text)
		for kind := -300; kind <= 300; kind++ {
			if kind < 1 || kind > 4 {
				checkNone(t, p, kind, api.ErrRange)
			}
		}
		for _, kind := range noKinds {
			checkNone(t, p, kind, api.ErrRange)
		}
		compare(t, text)
	}
}

// P10.1, R4, R5: programs that follow the grammar but that Check rejects have no system.
func TestRejectedPrograms(t *testing.T) {
	for text, want := range map[string]api.Errno{
		"func m; block b; x = y; return; end; func m; block b; return; end": api.ErrDuplicate,
		"func m; block b; source x; return; block b; return; end":           api.ErrDuplicate,
		"func m; block b; x = y; end":                                       api.ErrSyntax,
		"func m; block b; x = y; return; sanitize x; return; end":           api.ErrSyntax,
		"func m; block b; x = y; goto c; end":                               api.ErrName,
		"func m; block b; x = y; call x; return; end":                       api.ErrName,
		"func m; block b; x =; return; end; func f; block b; goto c; end":   api.ErrName,
	} {
		p := parse(t, text)
		rejects(t, p, want)
		if !syntax.Equal(p, parse(t, text)) {
			t.Errorf("the program %q was modified", text)
		}
	}
}

// P10.1, R1, R5: programs that are not well formed have no system.
func TestNotWellFormed(t *testing.T) {
	of := func(stmts ...api.Stmt) api.Program {
		return api.Program{Funcs: []api.Func{{Name: "m", Blocks: []api.Block{{Name: "b", Stmts: stmts}}}}}
	}
	finish := api.Stmt{Op: api.OpReturn}
	for _, p := range []api.Program{
		{}, {Funcs: []api.Func{}}, {Funcs: []api.Func{{}}}, {Funcs: []api.Func{{Name: "m"}}}, {Funcs: []api.Func{{Name: "m", Blocks: []api.Block{{Name: "b"}}}}},
		of(), of(api.Stmt{}), of(api.Stmt{}, finish), of(api.Stmt{Op: 10}, finish), of(api.Stmt{Op: -1}, finish), of(api.Stmt{Op: math.MaxInt, Def: "x"}, finish), of(api.Stmt{Op: math.MinInt}, finish),
		of(api.Stmt{Op: api.OpAssign}, finish), of(api.Stmt{Op: api.OpAssign, Def: "use"}, finish), of(api.Stmt{Op: api.OpSource, Def: "x", Uses: []string{"y"}}, finish),
		of(api.Stmt{Op: api.OpUse}, finish), of(api.Stmt{Op: api.OpUse, Uses: []string{""}}, finish), of(api.Stmt{Op: api.OpCall}, finish), of(api.Stmt{Op: api.OpBranch, Targets: []string{"b", "b"}}),
		of(api.Stmt{Op: api.OpAssign, Def: "x", Uses: []string{"a", "b", "c", "d", "e"}}, finish), of(append(slices.Repeat([]api.Stmt{{Op: api.OpAssign, Def: "x"}}, api.MaxStmts), finish)...),
	} {
		rejects(t, p, api.ErrInvalid)
	}
}

// long returns the text of a program of one function with these lines, 31 in a block, each of which ends with a return.
func long(lines []string) string {
	text := "func m"
	for part := range slices.Chunk(lines, 31) {
		text += "; block b" + strconv.Itoa(strings.Count(text, "block")) + "; " + strings.Join(part, "; ") + "; return"
	}
	return text + "; end"
}

// P10.1: programs with MaxNodes nodes, with the most facts, and with MaxVars variables, and with one more.
func TestProgramLimits(t *testing.T) {
	text := long(slices.Repeat([]string{"x ="}, 246))
	if s := system(t, parse(t, text), api.KindReach); s.Width != 246 || len(s.Deps) != api.MaxNodes || bitset.Count(s.Transfers[200].Kill) != 246 {
		t.Errorf("the system of the largest program has the width %d and %d unknowns", s.Width, len(s.Deps))
	}
	compare(t, text)
	rejects(t, parse(t, long(slices.Repeat([]string{"x ="}, 247))), api.ErrFull)
	var lines []string
	for i := range 64 {
		lines = append(lines, "v"+strconv.Itoa(63-i)+" = v"+strconv.Itoa(63-i/2)+" v"+strconv.Itoa(i))
	}
	compare(t, long(lines))
	rejects(t, parse(t, long(append(lines, "use w"))), api.ErrFull)
}

// generate returns the text of a program that is valid unless it has too many nodes.
func generate(r *rand.Rand) string {
	pick := func(list ...string) string { return list[r.IntN(len(list))] }
	variable := func() string { return pick("x", "y", "z", "m", "b0", "Use", "v"+strconv.Itoa(r.IntN(20))) }
	funcs := []string{"m", "f", "b0", "entry"}[:1+r.IntN(4)]
	text := ""
	for _, f := range funcs {
		text += "func " + f + "\n"
		blocks := []string{"b0", "b1", "x", "exit", "m"}[:1+r.IntN(5)]
		for _, b := range blocks {
			text += "block " + b + "\n"
			for range r.IntN(1 + r.IntN(31)) {
				text += pick(variable()+" =", variable()+" = "+variable(), variable()+" = "+variable()+" "+variable()+" "+variable(), "use "+variable()+" "+variable(), "call "+pick(funcs...),
					"source "+variable(), "sink "+variable(), "sanitize "+variable()) + "\n"
			}
			text += pick("return", "goto "+pick(blocks...), "branch "+variable()+" "+pick(blocks...)+" "+pick(blocks...)) + "\n"
		}
		text += "end\n"
	}
	return text
}

// P10.1: larger programs, compared with their graphs and printed texts.
func TestGeneratedPrograms(t *testing.T) {
	r := rand.New(rand.NewPCG(10, 1))
	valid := 0
	for range 60 {
		text := generate(r)
		p := parse(t, text)
		if _, err := validate.Check(p); err != api.OK {
			rejects(t, p, api.ErrFull)
			continue
		}
		valid++
		compare(t, text)
	}
	if valid < 40 {
		t.Errorf("only %d programs are valid", valid)
	}
}

// R3: a nil list and an empty one are equal.
func TestEmptyLists(t *testing.T) {
	p := parse(t, "func m; block b; x =; source y; return; end")
	for i := range p.Funcs[0].Blocks[0].Stmts {
		s := &p.Funcs[0].Blocks[0].Stmts[i]
		s.Uses, s.Targets = []string{}, []string{}
	}
	for _, kind := range kinds {
		checkSystem(t, p, kind)
	}
	for _, words := range [][]uint64{nil, {}} {
		none := api.Set{Words: words}
		for _, deps := range [][]int{nil, {}} {
			for _, copies := range [][]api.Copy{nil, {}} {
				s := api.System{Deps: [][]int{deps}, Boundary: []api.Set{none}, Transfers: []api.Transfer{{Gen: none, Kill: none, Copies: copies}}}
				right, err := equations.Right(s, []api.Set{none}, 0)
				if !equations.Valid(s) || equations.Edges(s) != 0 || err != api.OK || bitset.Text(right) != "/0" {
					t.Errorf("the system %v of the width 0 has the right side %v, %v", s, right, err)
				}
				if w, err := equations.Web(s); err != api.OK || !equations.ValidWeb(w) || len(w.In) != 1 || len(w.In[0]) != 0 {
					t.Errorf("the web of the system %v of the width 0 is %v, %v", s, w, err)
				}
			}
		}
	}
}

// plain returns a system of these dependencies whose functions are identities and whose boundaries are empty.
func plain(t *testing.T, width int, deps ...[]int) api.System {
	t.Helper()
	s := api.System{Width: width, Deps: deps}
	for range deps {
		s.Transfers = append(s.Transfers, identity(t, width))
		s.Boundary = append(s.Boundary, setOf(t, width))
	}
	return s
}

// plainWeb returns the web of the same kind.
func plainWeb(t *testing.T, width int, deps ...[]int) api.Web {
	t.Helper()
	w := api.Web{Width: width, In: make([][]api.Arc, len(deps))}
	for n, list := range deps {
		w.Boundary = append(w.Boundary, setOf(t, width))
		for _, m := range list {
			w.In[n] = append(w.In[n], api.Arc{From: m, F: identity(t, width)})
		}
	}
	return w
}

// checkValid compares Valid, and the errors of all functions for systems that are not valid, with what is expected.
func checkValid(t *testing.T, s api.System, want bool) {
	t.Helper()
	if equations.Valid(s) != want {
		t.Errorf("Valid of %v is not %v", s, want)
	}
	w, err := equations.Web(s)
	if want {
		if err != api.OK {
			t.Errorf("Web of %v is %v", s, err)
		}
		return
	}
	if err != api.ErrInvalid || !reflect.DeepEqual(w, api.Web{}) || equations.Edges(s) != 0 {
		t.Errorf("Web of %v is %v, %v, and Edges is %d", s, w, err, equations.Edges(s))
	}
	for _, values := range [][]api.Set{nil, s.Boundary, {{Width: -1}}, {setOf(t, 3), setOf(t, 3)}} {
		for _, n := range []int{0, 1, -1, len(s.Deps), math.MinInt, math.MaxInt} {
			if right, err := equations.Right(s, values, n); err != api.ErrInvalid || !reflect.DeepEqual(right, api.Set{}) {
				t.Errorf("Right of %v for the unknown %d is %v, %v", s, n, right, err)
			}
		}
	}
}

// lists returns all lists of at most two of the numbers from -1 to limit.
func lists(limit int) [][]int {
	result := [][]int{nil}
	for a := -1; a <= limit; a++ {
		result = append(result, []int{a})
		for b := -1; b <= limit; b++ {
			result = append(result, []int{a, b})
		}
	}
	return result
}

// permitted reports whether lists of dependencies are those of a valid system with few unknowns.
func permitted(deps ...[]int) bool {
	for _, list := range deps {
		for i, m := range list {
			if m < 0 || m >= len(deps) || slices.ContainsFunc(list[:i], func(k int) bool { return k >= m }) {
				return false
			}
		}
	}
	return true
}

// P10.2, P10.4: all systems and webs of one or two unknowns with short lists.
func TestSmallSystems(t *testing.T) {
	check := func(deps ...[]int) {
		checkValid(t, plain(t, 2, deps...), permitted(deps...))
		if got := equations.ValidWeb(plainWeb(t, 2, deps...)); got != permitted(deps...) {
			t.Errorf("ValidWeb of a web with the dependencies %v is %v", deps, got)
		}
		edges := 0
		for _, list := range deps {
			edges += len(list)
		}
		if got := equations.Edges(plain(t, 2, deps...)); permitted(deps...) && got != edges {
			t.Errorf("Edges of a system with the dependencies %v = %d", deps, got)
		}
	}
	for _, a := range lists(2) {
		check(a)
		for _, b := range lists(3) {
			check(a, b)
			check(b, a)
		}
	}
	for _, list := range [][]int{{0, 1, 2}, {0, 2}, {0, 2, 1}, {1, 2, 2}, {2, 1, 0}, {0, 1, 0}, {0, 1, 3}, {math.MinInt}, {math.MaxInt}, {0, math.MaxInt}} {
		check(list, nil, nil)
		check(nil, nil, list)
	}
}

// badSets returns sets that are not valid, or have another width than 2.
func badSets(t *testing.T) []api.Set {
	t.Helper()
	return append(invalidSets(), setOf(t, 0), setOf(t, 1, 0), setOf(t, 3), setOf(t, 66, 65), full(t, 64))
}

// invalidSets returns sets that are not valid, most of them with the width 2.
func invalidSets() []api.Set {
	return []api.Set{
		{Width: 2}, {Width: 2, Words: []uint64{4}}, {Width: 2, Words: []uint64{math.MaxUint64}}, {Width: 2, Words: []uint64{1, 0}},
		{Width: -1}, {Width: -1, Words: []uint64{0}}, {Width: 257, Words: make([]uint64, 5)}, {Width: math.MinInt}, {Width: math.MaxInt}, {Words: []uint64{0}},
	}
}

// badTransfers returns functions that are not valid, or have another width than 2.
func badTransfers(t *testing.T) []api.Transfer {
	t.Helper()
	none := setOf(t, 2)
	list := []api.Transfer{{}, identity(t, 0), identity(t, 1), identity(t, 3), identity(t, 256), {Gen: none, Kill: setOf(t, 3)}, {Gen: setOf(t, 3), Kill: none}}
	for _, s := range invalidSets() {
		list = append(list, api.Transfer{Gen: s, Kill: none}, api.Transfer{Gen: none, Kill: s}, api.Transfer{Gen: s, Kill: s})
	}
	for _, copies := range [][]api.Copy{{{From: 2}}, {{To: 2}}, {{From: -1}}, {{To: -1}}, {{From: 1}, {To: 1}}, {{To: 1}, {To: 1}}, {{From: 1, To: 1}, {From: 1}}, make([]api.Copy, 65)} {
		list = append(list, api.Transfer{Gen: none, Kill: none, Copies: copies})
	}
	return list
}

// P10.2, P10.4: sets and functions that are not valid or have another width than the system, at each unknown; a web has its
// functions at its arcs.
func TestInvalidParts(t *testing.T) {
	deps := [][]int{{0, 2}, {0, 1, 2}, {1}}
	if !equations.Valid(plain(t, 2, deps...)) || !equations.ValidWeb(plainWeb(t, 2, deps...)) {
		t.Errorf("the system of %v is not valid", deps)
	}
	for n := range deps {
		for _, bad := range badSets(t) {
			s, w := plain(t, 2, deps...), plainWeb(t, 2, deps...)
			s.Boundary[n], w.Boundary[n] = bad, bad
			checkValid(t, s, false)
			if equations.ValidWeb(w) {
				t.Errorf("a web with the boundary %v at %d is valid", bad, n)
			}
		}
		for _, bad := range badTransfers(t) {
			s := plain(t, 2, deps...)
			s.Transfers[n] = bad
			checkValid(t, s, false)
			for i := range deps[n] {
				w := plainWeb(t, 2, deps...)
				w.In[n][i].F = bad
				if equations.ValidWeb(w) {
					t.Errorf("a web with the function %v at the arc %d, %d is valid", bad, n, i)
				}
			}
		}
	}
}

// P10.2, P10.4: functions that are valid but not canonical, and with MaxCopies copies, are permitted.
func TestPermittedParts(t *testing.T) {
	f := api.Transfer{Gen: setOf(t, 65, 64), Kill: setOf(t, 65, 3), Copies: []api.Copy{{From: 3, To: 3}, {From: 4, To: 64}}}
	var copies []api.Copy
	for b := range api.MaxCopies {
		copies = append(copies, api.Copy{From: b, To: 64})
	}
	for _, f := range []api.Transfer{f, {Gen: setOf(t, 65), Kill: setOf(t, 65), Copies: copies}} {
		s := plain(t, 65, []int{0, 1}, []int{0})
		s.Transfers[0], s.Boundary[1] = f, full(t, 65)
		checkValid(t, s, true)
		w, err := equations.Web(s)
		if err != api.OK || !equations.ValidWeb(w) || show(w.In[1][0].F) != show(f) || show(w.In[0][0].F) != show(f) || bitset.Count(w.Boundary[1]) != 65 {
			t.Errorf("the web with the function %s is %v, %v", show(f), w, err)
		}
	}
}

// P10.2, P10.4: lists of different lengths, and none.
func TestLengths(t *testing.T) {
	checkValid(t, api.System{}, false)
	checkValid(t, api.System{Width: 2, Deps: [][]int{}, Transfers: []api.Transfer{}, Boundary: []api.Set{}}, false)
	for _, change := range []func(s *api.System){
		func(s *api.System) { s.Deps = s.Deps[:1] }, func(s *api.System) { s.Transfers = s.Transfers[:1] }, func(s *api.System) { s.Boundary = s.Boundary[:1] },
		func(s *api.System) { s.Deps = nil }, func(s *api.System) { s.Transfers = nil }, func(s *api.System) { s.Boundary = nil },
		func(s *api.System) { s.Deps = append(s.Deps, nil) }, func(s *api.System) { s.Transfers = append(s.Transfers, s.Transfers[0]) }, func(s *api.System) { s.Boundary = append(s.Boundary, s.Boundary[0]) },
		func(s *api.System) { s.Deps, s.Transfers = s.Deps[:1], s.Transfers[:1] }, func(s *api.System) { s.Deps, s.Boundary = s.Deps[:1], s.Boundary[:1] },
		func(s *api.System) { s.Width = 1 }, func(s *api.System) { s.Width = 3 }, func(s *api.System) { s.Width = 0 }, func(s *api.System) { s.Width = -1 }, func(s *api.System) { s.Width = math.MaxInt },
	} {
		s := plain(t, 2, nil, []int{0})
		change(&s)
		checkValid(t, s, false)
	}
	for _, w := range []api.Web{{}, {Width: 2, Boundary: []api.Set{}, In: [][]api.Arc{}}} {
		if equations.ValidWeb(w) {
			t.Errorf("the web %v without unknowns is valid", w)
		}
	}
	for i, change := range []func(w *api.Web){
		func(w *api.Web) { w.In = w.In[:1] }, func(w *api.Web) { w.In = nil }, func(w *api.Web) { w.In = append(w.In, nil) },
		func(w *api.Web) { w.Boundary = w.Boundary[:1] }, func(w *api.Web) { w.Boundary = nil }, func(w *api.Web) { w.Boundary = append(w.Boundary, w.Boundary[0]) },
		func(w *api.Web) { w.Width = 1 }, func(w *api.Web) { w.Width = 3 }, func(w *api.Web) { w.Width = 0 }, func(w *api.Web) { w.Width = -1 }, func(w *api.Web) { w.Width = math.MinInt },
	} {
		w := plainWeb(t, 2, nil, []int{0})
		change(&w)
		if equations.ValidWeb(w) {
			t.Errorf("the web %d is valid: %v", i, w)
		}
	}
}

// P10.2, P10.4: the limits of the width, the unknowns and the dependencies, and one more.
func TestLimits(t *testing.T) {
	all := make([]int, api.MaxNodes)
	for i := range all {
		all[i] = i
	}
	dense := slices.Repeat([][]int{all[:32]}, 32)
	few := append(slices.Repeat([][]int{all}, 4), make([][]int, api.MaxNodes-4)...)
	fewMore := slices.Clone(few)
	fewMore[api.MaxNodes-1] = []int{7}
	for i, c := range []struct {
		deps [][]int
		want bool
	}{
		{dense, true}, {append(slices.Clone(dense), nil), true}, {append(slices.Clone(dense), []int{0}), false}, {few, true}, {fewMore, false},
		{make([][]int, api.MaxNodes), true}, {make([][]int, api.MaxNodes+1), false}, {slices.Repeat([][]int{all}, api.MaxNodes), false},
	} {
		s := plain(t, 1, c.deps...)
		checkValid(t, s, c.want)
		if edges := equations.Edges(s); c.want && i < 5 && edges != api.MaxEdges {
			t.Errorf("the system %d has %d edges", i, edges)
		}
		if equations.ValidWeb(plainWeb(t, 1, c.deps...)) != c.want {
			t.Errorf("ValidWeb of the web %d is not %v", i, c.want)
		}
	}
	for width := range api.MaxWidth + 1 {
		checkValid(t, plain(t, width, []int{0}), true)
		if !equations.ValidWeb(plainWeb(t, width, []int{0})) {
			t.Errorf("a web of the width %d is not valid", width)
		}
	}
	for _, width := range []int{-1, -64, 257, 320, math.MinInt, math.MaxInt} {
		for words := range 6 {
			s := api.Set{Width: width, Words: make([]uint64, words)}
			f := api.Transfer{Gen: s, Kill: s}
			checkValid(t, api.System{Width: width, Deps: [][]int{{0}}, Transfers: []api.Transfer{f}, Boundary: []api.Set{s}}, false)
			if equations.ValidWeb(api.Web{Width: width, Boundary: []api.Set{s}, In: [][]api.Arc{{{F: f}}}}) || equations.ValidWeb(api.Web{Width: width, Boundary: []api.Set{s}, In: [][]api.Arc{nil}}) {
				t.Errorf("a web of the width %d is valid", width)
			}
		}
	}
}

// checkRight compares Right with what is expected.
func checkRight(t *testing.T, s api.System, values []api.Set, n int, want string, wantErr api.Errno) {
	t.Helper()
	right, err := equations.Right(s, values, n)
	if err != wantErr || bitset.Text(right) != want && err == api.OK || err != api.OK && !reflect.DeepEqual(right, api.Set{}) {
		t.Errorf("Right of %v for %v and the unknown %d is %v, %v, want %q, %v", s, values, n, right, err, want, wantErr)
	}
}

// P10.3: the union of the boundary and of the values of the functions of the dependencies, not of the unknown itself.
func TestRight(t *testing.T) {
	s := plain(t, 4, nil, []int{0}, []int{0, 1, 2}, []int{3})
	s.Transfers[0] = api.Transfer{Gen: setOf(t, 4, 1), Kill: setOf(t, 4, 0)}
	s.Transfers[1] = api.Transfer{Gen: setOf(t, 4), Kill: setOf(t, 4, 2), Copies: []api.Copy{{From: 2, To: 3}}}
	s.Transfers[2] = api.Transfer{Gen: setOf(t, 4), Kill: full(t, 4)}
	s.Boundary[0], s.Boundary[3] = setOf(t, 4, 0, 3), setOf(t, 4, 2)
	checkValid(t, s, true)
	empty, first := setOf(t, 4), setOf(t, 4, 0)
	for _, c := range []struct {
		values []api.Set
		want   [4]string
	}{
		{[]api.Set{empty, empty, empty, empty}, [4]string{"0,3/4", "1/4", "1/4", "2/4"}},
		{[]api.Set{first, first, first, first}, [4]string{"0,3/4", "1/4", "0,1/4", "0,2/4"}},
		{[]api.Set{setOf(t, 4, 2), setOf(t, 4, 2), empty, setOf(t, 4, 2)}, [4]string{"0,3/4", "1,2/4", "1,2,3/4", "2/4"}},
		{[]api.Set{empty, setOf(t, 4, 2), full(t, 4), full(t, 4)}, [4]string{"0,3/4", "1/4", "1,3/4", "0,1,2,3/4"}},
	} {
		for n, want := range c.want {
			checkRight(t, s, c.values, n, want, api.OK)
		}
	}
}

// P10.3, R4, R5: the errors of Right and their order; the values of all unknowns are checked, also of those that the right side
// does not depend on, and sets that are not valid come before those of another width, wherever they are.
func TestRightErrors(t *testing.T) {
	s := plain(t, 2, nil, []int{0}, []int{1})
	good, wide, bad := setOf(t, 2, 1), setOf(t, 3), api.Set{Width: 2, Words: []uint64{4}}
	values := []api.Set{good, good, good}
	for _, n := range []int{-1, 3, 4, 257, math.MinInt, math.MaxInt} {
		for _, list := range [][]api.Set{values, nil, values[:2], {bad, bad, bad}, {wide, wide, wide}, {bad, wide, good}} {
			checkRight(t, s, list, n, "", api.ErrNode)
		}
	}
	for n := range 3 {
		checkRight(t, s, values, n, []string{"/2", "1/2", "1/2"}[n], api.OK)
		for _, list := range [][]api.Set{nil, {}, values[:1], values[:2], {good, good, good, good}, {wide}, {wide, wide, wide, wide}, {wide, wide, bad}, {bad, wide, wide}, {wide, bad, good}} {
			checkRight(t, s, list, n, "", api.ErrInvalid)
		}
		for i := range 3 {
			for _, set := range invalidSets() {
				list := slices.Clone(values)
				list[i] = set
				checkRight(t, s, list, n, "", api.ErrInvalid)
			}
			for _, set := range []api.Set{{}, setOf(t, 1), wide, full(t, 64), setOf(t, 66, 65), full(t, 256)} {
				list := slices.Clone(values)
				list[i] = set
				checkRight(t, s, list, n, "", api.ErrWidth)
			}
		}
	}
}

// someSet returns a set of random members.
func someSet(t *testing.T, r *rand.Rand, width int) api.Set {
	t.Helper()
	var members []int
	for b := range width {
		if r.IntN(4) == 0 {
			members = append(members, b)
		}
	}
	return setOf(t, width, members...)
}

// someSystem returns a valid system with random functions, which are mostly not canonical.
func someSystem(t *testing.T, r *rand.Rand) api.System {
	t.Helper()
	width, size := r.IntN(9), 1+r.IntN(6)
	if r.IntN(8) == 0 {
		width = 60 + r.IntN(10)
	}
	s := api.System{Width: width, Deps: make([][]int, size)}
	for n := range size {
		for m := range size {
			if r.IntN(3) == 0 {
				s.Deps[n] = append(s.Deps[n], m)
			}
		}
		f := api.Transfer{Gen: someSet(t, r, width), Kill: someSet(t, r, width)}
		for from := range width {
			for to := range width {
				if r.IntN(width) == 0 && len(f.Copies) < api.MaxCopies {
					f.Copies = append(f.Copies, api.Copy{From: from, To: to})
				}
			}
		}
		s.Transfers = append(s.Transfers, f)
		s.Boundary = append(s.Boundary, someSet(t, r, width))
	}
	return s
}

// someValues returns random values of all unknowns.
func someValues(t *testing.T, r *rand.Rand, s api.System) []api.Set {
	t.Helper()
	var values []api.Set
	for range s.Deps {
		values = append(values, someSet(t, r, s.Width))
	}
	return values
}

// rightBits returns the members of the right side of an unknown, bit by bit, from the definitions.
func rightBits(s api.System, values []api.Set, n int) []int {
	var members []int
	for b := range s.Width {
		in := bitset.Has(s.Boundary[n], b)
		for _, m := range s.Deps[n] {
			in = in || bitset.Has(s.Transfers[m].Gen, b)
			for a := range s.Width {
				in = in || bitset.Has(values[m], a) && transfer.Follows(s.Transfers[m], a, b)
			}
		}
		if in {
			members = append(members, b)
		}
	}
	return members
}

// checkGenerated compares Right with rightBits, and checks that it is monotonic and distributes over the union of two lists of
// values.
func checkGenerated(t *testing.T, s api.System, one, other []api.Set) {
	t.Helper()
	both := make([]api.Set, len(one))
	for n := range one {
		both[n] = union(t, one[n], other[n])
	}
	for n := range one {
		var sides []api.Set
		for _, values := range [][]api.Set{one, other, both} {
			right, err := equations.Right(s, values, n)
			if err != api.OK || right.Width != s.Width || !slices.Equal(bitset.Members(right), rightBits(s, values, n)) {
				t.Errorf("Right of %v for %v and the unknown %d is %v, %v, want %v", s, values, n, right, err, rightBits(s, values, n))
			}
			sides = append(sides, right)
		}
		if !bitset.Equal(union(t, sides[0], sides[1]), sides[2]) || !bitset.Subset(sides[0], sides[2]) {
			t.Errorf("Right of %v for the unknown %d does not distribute: %v", s, n, sides)
		}
	}
}

// checkWeb compares the web of a valid system with the definition, and its right sides with those of the system.
func checkWeb(t *testing.T, s api.System, values []api.Set) {
	t.Helper()
	w, err := equations.Web(s)
	if err != api.OK || w.Width != s.Width || len(w.In) != len(s.Deps) || len(w.Boundary) != len(s.Deps) || !equations.ValidWeb(w) {
		t.Fatalf("the web of %v is %v, %v", s, w, err)
	}
	for n, deps := range s.Deps {
		if len(w.In[n]) != len(deps) || !bitset.Equal(w.Boundary[n], s.Boundary[n]) {
			t.Fatalf("the web of %v has the arcs %v and the boundary %v at %d", s, w.In[n], w.Boundary[n], n)
		}
		right := w.Boundary[n]
		for i, m := range deps {
			arc := w.In[n][i]
			if arc.From != m || show(arc.F) != show(s.Transfers[m]) {
				t.Errorf("the web of %v has the arc %v at %d, %d", s, arc, n, i)
			}
			part, _ := transfer.Apply(arc.F, values[arc.From])
			right = union(t, right, part)
		}
		checkRight(t, s, values, n, bitset.Text(right), api.OK)
	}
}

// P10.2 to P10.4: generated systems and values, and those of generated programs.
func TestGeneratedSystems(t *testing.T) {
	r := rand.New(rand.NewPCG(10, 2))
	for range 400 {
		s := someSystem(t, r)
		checkValid(t, s, true)
		checkGenerated(t, s, someValues(t, r, s), someValues(t, r, s))
		checkWeb(t, s, someValues(t, r, s))
	}
	for range 20 {
		p := parse(t, generate(r))
		if _, err := validate.Check(p); err != api.OK {
			continue
		}
		for _, kind := range kinds {
			s := system(t, p, kind)
			checkWeb(t, s, someValues(t, r, s))
		}
	}
}

// copied returns a system that is equal and shares no memory.
func copied(s api.System) api.System {
	c := api.System{Width: s.Width}
	for n := range s.Deps {
		c.Deps = append(c.Deps, slices.Clone(s.Deps[n]))
		c.Boundary = append(c.Boundary, copiedSet(s.Boundary[n]))
		f := s.Transfers[n]
		c.Transfers = append(c.Transfers, api.Transfer{Gen: copiedSet(f.Gen), Kill: copiedSet(f.Kill), Copies: slices.Clone(f.Copies)})
	}
	return c
}

func copiedSet(s api.Set) api.Set { return api.Set{Width: s.Width, Words: slices.Clone(s.Words)} }

// places collects the places of elements of slices, and those that are there more than once.
type places struct {
	seen   map[any]bool
	shared int
}

func addAll[T any](p *places, list []T) {
	list = list[:cap(list)]
	for i := range list {
		if p.seen[&list[i]] {
			p.shared++
		}
		p.seen[&list[i]] = true
	}
}

func (p *places) addTransfer(f api.Transfer) {
	addAll(p, f.Gen.Words)
	addAll(p, f.Kill.Words)
	addAll(p, f.Copies)
}

func (p *places) addSets(sets []api.Set) {
	addAll(p, sets)
	for _, s := range sets {
		addAll(p, s.Words)
	}
}

func (p *places) addSystem(s api.System) {
	addAll(p, s.Deps)
	for _, list := range s.Deps {
		addAll(p, list)
	}
	addAll(p, s.Transfers)
	for _, f := range s.Transfers {
		p.addTransfer(f)
	}
	p.addSets(s.Boundary)
}

func (p *places) addWeb(w api.Web) {
	p.addSets(w.Boundary)
	addAll(p, w.In)
	for _, arcs := range w.In {
		addAll(p, arcs)
		for _, a := range arcs {
			p.addTransfer(a.F)
		}
	}
}

// R2: no function modifies its arguments, and no results share memory with each other, with arguments or within themselves.
func TestMemory(t *testing.T) {
	p := parse(t, "func m; block b; x = y z; source z; call f; branch x b c; block c; y =; use y; return; end; func f; block b; sanitize x; return; end")
	r := rand.New(rand.NewPCG(10, 3))
	found := places{seen: map[any]bool{}}
	var systems []api.System
	for _, kind := range kinds {
		systems = append(systems, system(t, p, kind), system(t, p, kind))
	}
	for range 20 {
		systems = append(systems, someSystem(t, r))
	}
	for _, s := range systems {
		found.addSystem(s)
		before, values := copied(s), someValues(t, r, s)
		valuesBefore := slices.Clone(values)
		for n, v := range values {
			valuesBefore[n] = copiedSet(v)
		}
		found.addSets(values)
		for range 2 {
			w, err := equations.Web(s)
			if err != api.OK || !equations.ValidWeb(w) || !equations.Valid(s) || equations.Edges(s) < 0 {
				t.Errorf("the web of %v is %v, %v", s, w, err)
			}
			found.addWeb(w)
			for n := range s.Deps {
				right, err := equations.Right(s, values, n)
				if err != api.OK {
					t.Errorf("Right of %v is %v", s, err)
				}
				found.addSets([]api.Set{right})
			}
		}
		if !reflect.DeepEqual(copied(s), before) || !reflect.DeepEqual(values, valuesBefore) {
			t.Errorf("the system %v or its values %v were modified", before, valuesBefore)
		}
	}
	if found.shared > 0 || len(found.seen) == 0 {
		t.Errorf("%d elements of slices are shared", found.shared)
	}
}

// R2: functions for webs leave them as they are.
func TestWebUnchanged(t *testing.T) {
	for _, deps := range [][][]int{{{0, 1}, {1}}, {{1, 0}, nil}, {{5}, nil}} {
		w := plainWeb(t, 3, deps...)
		equations.ValidWeb(w)
		if !reflect.DeepEqual(w, plainWeb(t, 3, deps...)) {
			t.Errorf("ValidWeb modified the web of %v: %v", deps, w)
		}
	}
}
