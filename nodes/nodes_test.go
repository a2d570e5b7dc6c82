package nodes_test

import (
	"math"
	"reflect"
	"slices"
	"strconv"
	"strings"
	"testing"

	"flowquery/api"
	"flowquery/nodes"
	"flowquery/syntax"
	"flowquery/validate"
)

// parse returns the program of a text that must be well formed.
func parse(t *testing.T, text string) api.Program {
	t.Helper()
	p, line, col, err := syntax.Parse(text)
	if err != api.OK {
		t.Fatalf("Parse(%q) is %v at %d, %d", text, err, line, col)
	}
	return p
}

func entry(f int) api.Node { return api.Node{Kind: api.NodeEntry, Func: f, Block: -1, Stmt: -1} }

func exit(f int) api.Node { return api.Node{Kind: api.NodeExit, Func: f, Block: -1, Stmt: -1} }

func at(f, b, s int) api.Node { return api.Node{Kind: api.NodeStmt, Func: f, Block: b, Stmt: s} }

func back(f, b, s int) api.Node { return api.Node{Kind: api.NodeReturn, Func: f, Block: b, Stmt: s} }

// place is what is known about a node: its number, its label, and the text of its statement (empty if it has none).
type place struct {
	number int
	label  string
	stmt   string
}

// reference returns the nodes of a valid program in their order, and what is known about each, from the lines of its text.
func reference(p api.Program) ([]api.Node, map[api.Node]place) {
	var list []api.Node
	places := map[api.Node]place{}
	add := func(n api.Node, label, stmt string) {
		places[n] = place{len(list), label, stmt}
		list = append(list, n)
	}
	f, b, s, function, block := -1, -1, -1, "", ""
	for _, line := range strings.Split(strings.TrimSuffix(syntax.Print(p), "\n"), "\n") {
		words := strings.Fields(line)
		switch words[0] {
		case "func":
			f, b, function = f+1, -1, words[1]
			add(entry(f), function+".entry", "")
		case "block":
			b, s, block = b+1, -1, words[1]
		case "end":
			add(exit(f), function+".exit", "")
		default:
			s++
			label := strings.Join([]string{function, block, strconv.Itoa(s)}, ".")
			add(at(f, b, s), label, line)
			if words[0] == "call" {
				add(back(f, b, s), label+"+", line)
			}
		}
	}
	return list, places
}

// stmtText returns the text of a statement, or an empty one if it is not well formed.
func stmtText(s api.Stmt) string {
	b := api.Block{Name: "b", Stmts: []api.Stmt{s}}
	lines := strings.Split(syntax.Print(api.Program{Funcs: []api.Func{{Name: "m", Blocks: []api.Block{b}}}}), "\n")
	if len(lines) < 3 {
		return ""
	}
	return lines[2]
}

// isZero reports whether s is the zero statement; a nil list and an empty one are equal.
func isZero(s api.Stmt) bool { return s.Op == 0 && s.Def == "" && len(s.Uses)+len(s.Targets) == 0 }

// checkNode checks Find, Stmt and Label of a node of p: want is what is known about it, or has the number -1.
func checkNode(t *testing.T, p api.Program, n api.Node, want place) {
	t.Helper()
	if got := nodes.Find(p, n); got != want.number {
		t.Errorf("Find of %v in %q = %d, want %d", n, syntax.Inline(p), got, want.number)
	}
	if got := nodes.Label(p, n); got != want.label {
		t.Errorf("Label of %v in %q = %q, want %q", n, syntax.Inline(p), got, want.label)
	}
	s, ok := nodes.Stmt(p, n)
	if ok != (want.stmt != "") || stmtText(s) != want.stmt || !ok && !isZero(s) {
		t.Errorf("Stmt of %v in %q = %v, %v, want %q", n, syntax.Inline(p), s, ok, want.stmt)
	}
}

var nowhere = place{-1, "", ""}

// compare checks all functions with the reference, for all nodes of a valid program, and that p is left as it is.
func compare(t *testing.T, p api.Program) {
	t.Helper()
	before := copied(p)
	want, places := reference(p)
	if got := nodes.List(p); !slices.Equal(got, want) {
		t.Fatalf("the nodes of %q are %v, want %v", syntax.Inline(p), got, want)
	}
	for _, n := range want {
		checkNode(t, p, n, places[n])
	}
	if !reflect.DeepEqual(p, before) {
		t.Fatalf("the program %q was modified", syntax.Inline(before))
	}
}

// around returns nodes of all kinds and no kinds, with numbers from below the least to above the greatest of small programs.
func around() []api.Node {
	var list []api.Node
	for kind := -1; kind <= 5; kind++ {
		for f := -2; f <= 3; f++ {
			for b := -2; b <= 3; b++ {
				for s := -2; s <= 4; s++ {
					list = append(list, api.Node{Kind: kind, Func: f, Block: b, Stmt: s})
				}
			}
		}
	}
	for _, edge := range []int{math.MinInt, math.MinInt32, math.MaxInt32, math.MaxInt} {
		for _, n := range []api.Node{entry(0), exit(0), at(0, 0, 0), back(0, 0, 0)} {
			for _, field := range []*int{&n.Kind, &n.Func, &n.Block, &n.Stmt} {
				kept := *field
				*field = edge
				list = append(list, n)
				*field = kept
			}
		}
	}
	return list
}

// compareAround checks Find, Stmt and Label with the reference, for all nodes that around returns.
func compareAround(t *testing.T, p api.Program) {
	t.Helper()
	_, places := reference(p)
	for _, n := range around() {
		want, ok := places[n]
		if !ok {
			want = nowhere
		}
		checkNode(t, p, n, want)
	}
}

// hasNone checks that a program that is not valid has no nodes.
func hasNone(t *testing.T, p api.Program) {
	t.Helper()
	before := copied(p)
	if list := nodes.List(p); len(list) > 0 {
		t.Errorf("the nodes of %v are %v", p, list)
	}
	for _, n := range []api.Node{{}, entry(0), exit(0), at(0, 0, 0), back(0, 0, 0), at(0, 0, -1), at(-1, -1, -1), entry(1), exit(1), at(1, 0, 0), at(0, 1, 0), at(0, 0, 1)} {
		checkNode(t, p, n, nowhere)
	}
	if !reflect.DeepEqual(p, before) {
		t.Errorf("the program %v was modified", before)
	}
}

// copied returns the same program in new memory.
func copied(p api.Program) api.Program {
	q := api.Program{Funcs: slices.Clone(p.Funcs)}
	for f := range q.Funcs {
		blocks := slices.Clone(q.Funcs[f].Blocks)
		for b := range blocks {
			stmts := slices.Clone(blocks[b].Stmts)
			for s := range stmts {
				stmts[s].Uses, stmts[s].Targets = slices.Clone(stmts[s].Uses), slices.Clone(stmts[s].Targets)
			}
			blocks[b].Stmts = stmts
		}
		q.Funcs[f].Blocks = blocks
	}
	return q
}

// labels returns the labels of the nodes of p in their order.
func labels(p api.Program) string {
	var list []string
	for _, n := range nodes.List(p) {
		list = append(list, nodes.Label(p, n))
	}
	return strings.Join(list, " ")
}

// P7.1 to P7.4: the examples of the chapter.
func TestExamples(t *testing.T) {
	p := parse(t, "func m; block b; x = y; return; end")
	if got := labels(p); got != "m.entry m.b.0 m.b.1 m.exit" {
		t.Errorf("the labels of the first example are %q", got)
	}
	if got := labels(parse(t, "func m; block b; call m; return; end")); got != "m.entry m.b.0 m.b.0+ m.b.1 m.exit" {
		t.Errorf("the labels of the second example are %q", got)
	}
	for _, n := range []api.Node{back(0, 0, 0), at(0, 1, 0), at(0, 0, 2), entry(1), exit(1)} {
		if got := nodes.Find(p, n); got != -1 {
			t.Errorf("Find of the node %v of another program = %d", n, got)
		}
	}
}

// P7.1: the nodes in the order of the functions, blocks and statements; that to which a call returns is directly after it.
func TestList(t *testing.T) {
	for _, c := range []struct {
		text string
		want []api.Node
	}{
		{"func m; block b; return; end", []api.Node{entry(0), at(0, 0, 0), exit(0)}},
		{"func m; block b; call m; call m; goto b; end", []api.Node{entry(0), at(0, 0, 0), back(0, 0, 0), at(0, 0, 1), back(0, 0, 1), at(0, 0, 2), exit(0)}},
		{"func m; block b; goto c; block a; call m; branch x a b; block c; return; end",
			[]api.Node{entry(0), at(0, 0, 0), at(0, 1, 0), back(0, 1, 0), at(0, 1, 1), at(0, 2, 0), exit(0)}},
		{"func m; block b; return; end; func f; block b; x =; call m; return; end; func a; block b; return; end",
			[]api.Node{entry(0), at(0, 0, 0), exit(0), entry(1), at(1, 0, 0), at(1, 0, 1), back(1, 0, 1), at(1, 0, 2), exit(1), entry(2), at(2, 0, 0), exit(2)}},
	} {
		p := parse(t, c.text)
		if got := nodes.List(p); !slices.Equal(got, c.want) {
			t.Errorf("the nodes of %q are %v, want %v", c.text, got, c.want)
		}
		compare(t, p)
	}
}

// P7.1: each operation has one node, and a call two.
func TestOperations(t *testing.T) {
	for line, count := range map[string]int{"x =": 1, "x = x y": 1, "use x": 1, "use x y z w": 1, "call m": 2, "call f": 2, "source x": 1, "sink x": 1, "sanitize x": 1} {
		p := parse(t, "func m; block b; "+line+"; return; end; func f; block b; return; end")
		if got := len(nodes.List(p)); got != 6+count {
			t.Errorf("a program with %q has %d nodes", line, got)
		}
		compare(t, p)
	}
	for _, line := range []string{"goto b", "branch x b b", "branch x b c", "return"} {
		p := parse(t, "func m; block b; "+line+"; block c; return; end")
		if got := len(nodes.List(p)); got != 4 {
			t.Errorf("a program with %q has %d nodes", line, got)
		}
		compare(t, p)
	}
}

// P7.2: Find compares all fields of a node.
func TestFind(t *testing.T) {
	p := parse(t, "func m; block b; x = y; call f; goto c; block c; call m; return; end; func f; block b; call f; return; end")
	for n, want := range map[api.Node]int{
		entry(0): 0, at(0, 0, 0): 1, at(0, 0, 1): 2, back(0, 0, 1): 3, at(0, 0, 2): 4, at(0, 1, 0): 5, back(0, 1, 0): 6, at(0, 1, 1): 7, exit(0): 8,
		entry(1): 9, at(1, 0, 0): 10, back(1, 0, 0): 11, at(1, 0, 1): 12, exit(1): 13,
		{}: -1, back(0, 0, 0): -1, back(0, 0, 2): -1, at(0, 0, 3): -1, at(0, 1, 2): -1, at(0, 2, 0): -1, at(1, 1, 0): -1, at(2, 0, 0): -1, at(0, 0, -1): -1, at(0, -1, -1): -1, at(-1, 0, 0): -1,
		entry(-1): -1, entry(2): -1, exit(-1): -1, exit(2): -1,
		{Kind: api.NodeEntry}: -1, {Kind: api.NodeExit}: -1, {Kind: api.NodeEntry, Block: -1}: -1, {Kind: api.NodeEntry, Stmt: -1}: -1, {Kind: api.NodeExit, Block: -1}: -1, {Kind: api.NodeExit, Stmt: -1}: -1,
		{Block: -1, Stmt: -1}: -1, {Kind: 5, Block: -1, Stmt: -1}: -1, {Kind: 5}: -1, {Kind: -1}: -1,
	} {
		if got := nodes.Find(p, n); got != want {
			t.Errorf("Find of %v = %d, want %d", n, got, want)
		}
	}
}

// P7.3: the statements of nodes; those of a call and of the node to which it returns are the same.
func TestStmt(t *testing.T) {
	p := parse(t, "func m; block b; x = y z; use x y; call f; source x; sink y; sanitize z; branch w c b; block c; goto b; end; func f; block c; return; end")
	for n, want := range map[api.Node]api.Stmt{
		at(0, 0, 0):   {Op: api.OpAssign, Def: "x", Uses: []string{"y", "z"}},
		at(0, 0, 1):   {Op: api.OpUse, Uses: []string{"x", "y"}},
		at(0, 0, 2):   {Op: api.OpCall, Targets: []string{"f"}},
		back(0, 0, 2): {Op: api.OpCall, Targets: []string{"f"}},
		at(0, 0, 3):   {Op: api.OpSource, Def: "x"},
		at(0, 0, 4):   {Op: api.OpSink, Uses: []string{"y"}},
		at(0, 0, 5):   {Op: api.OpSanitize, Def: "z"},
		at(0, 0, 6):   {Op: api.OpBranch, Uses: []string{"w"}, Targets: []string{"c", "b"}},
		at(0, 1, 0):   {Op: api.OpGoto, Targets: []string{"b"}},
		at(1, 0, 0):   {Op: api.OpReturn},
	} {
		got, ok := nodes.Stmt(p, n)
		if !ok || got.Op != want.Op || got.Def != want.Def || !slices.Equal(got.Uses, want.Uses) || !slices.Equal(got.Targets, want.Targets) {
			t.Errorf("Stmt of %v = %v, %v, want %v", n, got, ok, want)
		}
	}
	for _, n := range []api.Node{{}, entry(0), exit(0), entry(1), exit(1), entry(2), exit(-1), back(0, 0, 0), back(0, 0, 6), back(1, 0, 0), at(0, 0, 7), at(0, 1, 1), at(1, 1, 0), at(2, 0, 0), at(0, 0, -1), at(0, -1, -1), {Kind: api.NodeEntry}, {Kind: api.NodeExit}, {Kind: 5}} {
		if got, ok := nodes.Stmt(p, n); ok || !isZero(got) {
			t.Errorf("Stmt of %v = %v, %v", n, got, ok)
		}
	}
}

// P7.4: the labels of nodes, with the names as they are, and indices of one and of two digits.
func TestLabel(t *testing.T) {
	for text, want := range map[string]string{
		"func m; block b; return; end; func M; block B; return; end":                                              "m.entry m.b.0 m.exit M.entry M.B.0 M.exit",
		"func a1; block b_2; call f; goto c; block c; return; end; func f; block c; call a1; call f; return; end": "a1.entry a1.b_2.0 a1.b_2.0+ a1.b_2.1 a1.c.0 a1.exit f.entry f.c.0 f.c.0+ f.c.1 f.c.1+ f.c.2 f.exit",
		"func entry; block exit; return; block entry; return; end; func exit; block exit; return; end":            "entry.entry entry.exit.0 entry.entry.0 entry.exit exit.entry exit.exit.0 exit.exit",
		"func abcdefghijklmnop; block ponmlkjihgfedcba; return; end":                                              "abcdefghijklmnop.entry abcdefghijklmnop.ponmlkjihgfedcba.0 abcdefghijklmnop.exit",
	} {
		if got := labels(parse(t, text)); got != want {
			t.Errorf("the labels of %q are %q, want %q", text, got, want)
		}
	}
	p := parse(t, "func m; block b; "+strings.Repeat("call m; ", 31)+"return; end")
	for n, want := range map[api.Node]string{
		at(0, 0, 9): "m.b.9", back(0, 0, 9): "m.b.9+", at(0, 0, 10): "m.b.10", back(0, 0, 10): "m.b.10+", at(0, 0, 30): "m.b.30", back(0, 0, 30): "m.b.30+", at(0, 0, 31): "m.b.31",
		{}: "", back(0, 0, 31): "", at(0, 0, 32): "", at(0, 0, -1): "", at(0, -1, -1): "", at(0, 1, 0): "", at(1, 0, 0): "", entry(1): "", exit(1): "", entry(-1): "", exit(-1): "",
		{Kind: api.NodeEntry}: "", {Kind: api.NodeExit}: "", {Block: -1, Stmt: -1}: "", {Kind: 5}: "",
	} {
		if got := nodes.Label(p, n); got != want {
			t.Errorf("Label of %v = %q, want %q", n, got, want)
		}
	}
}

// P7.2 to P7.4, R1: nodes that a program has and those that it does not have.
func TestAround(t *testing.T) {
	for _, text := range []string{
		"func m; block b; return; end",
		"func m; block b; call m; return; end",
		"func m; block b; x = y; call f; goto c; block c; branch x b c; end; func f; block b; call f; call m; return; end",
		"func m; block b; call m; call g; return; end; func f; block c; return; block b; goto c; end; func g; block a; sink x; goto b; block b; call f; call m; return; block c; return; end",
	} {
		compareAround(t, parse(t, text))
	}
}

// P7.1 to P7.4, R5: programs that follow the grammar but that Check rejects have no nodes.
func TestRejectedPrograms(t *testing.T) {
	for text, want := range map[string]api.Errno{
		"func m; block b; return; end; func m; block b; return; end":                                       api.ErrDuplicate,
		"func m; block b; return; block b; return; end":                                                    api.ErrDuplicate,
		"func m; block b; x = y; end":                                                                      api.ErrSyntax,
		"func m; block b; return; return; end":                                                             api.ErrSyntax,
		"func m; block b; goto c; end":                                                                     api.ErrName,
		"func m; block b; call f; return; end":                                                             api.ErrName,
		"func m; block b; return; end; func f; block b; branch x b m; end":                                 api.ErrName,
		"func m; block b; call m; return; end; func f; block b; call m; end":                               api.ErrSyntax,
		"func m; block b; call m; return; end; func f; block b; goto b; end; func f; block b; goto b; end": api.ErrDuplicate,
	} {
		p := parse(t, text)
		if _, err := validate.Check(p); err != want {
			t.Errorf("Check of %q is %v, want %v", text, err, want)
		}
		hasNone(t, p)
	}
}

// P7.1 to P7.4, R1, R5: programs that are not well formed have no nodes.
func TestNotWellFormed(t *testing.T) {
	stmt := func(stmts ...api.Stmt) api.Program {
		return api.Program{Funcs: []api.Func{{Name: "m", Blocks: []api.Block{{Name: "b", Stmts: stmts}}}}}
	}
	finish := api.Stmt{Op: api.OpReturn}
	for _, p := range []api.Program{
		{}, {Funcs: []api.Func{}}, {Funcs: make([]api.Func, 2)}, {Funcs: []api.Func{{Name: "m"}}}, {Funcs: []api.Func{{Name: "m", Blocks: make([]api.Block, 2)}}},
		{Funcs: []api.Func{{Name: "m", Blocks: []api.Block{{Name: "b"}}}}}, {Funcs: []api.Func{{Blocks: []api.Block{{Name: "b", Stmts: []api.Stmt{finish}}}}}},
		{Funcs: []api.Func{{Name: "m", Blocks: []api.Block{{Stmts: []api.Stmt{finish}}}}}}, {Funcs: []api.Func{{Name: "m.b", Blocks: []api.Block{{Name: "b", Stmts: []api.Stmt{finish}}}}}},
		{Funcs: append(stmt(finish).Funcs, api.Func{Name: "f"})},
		stmt(), stmt(api.Stmt{}), stmt(api.Stmt{Op: 10}), stmt(api.Stmt{Op: math.MinInt}, finish), stmt(api.Stmt{Op: api.OpCall}, finish), stmt(api.Stmt{Op: api.OpCall, Targets: []string{"m", "m"}}, finish),
		stmt(api.Stmt{Op: api.OpAssign}, finish), stmt(api.Stmt{Op: api.OpUse}, finish), stmt(api.Stmt{Op: api.OpReturn, Def: "x"}), stmt(slices.Repeat([]api.Stmt{finish}, 33)...),
	} {
		hasNone(t, p)
	}
}

// large returns the text of a program of one function with a number of nodes: 16 blocks, all but the last of which have
// lines of 15 nodes and a return.
func large(line string, lineNodes, count int) string {
	text, left := "func m", count-2
	for b := range 16 {
		text += "; block b" + strconv.Itoa(b)
		most := 15
		if b == 15 {
			most = left - 1
		}
		for n := lineNodes; n <= most; n += lineNodes {
			text += "; " + line
			left -= lineNodes
		}
		text += "; return"
		left--
	}
	return text + "; end"
}

// P7.1 to P7.4: programs with MaxNodes nodes, and one more; those with MaxVars variables, and one more.
func TestLimits(t *testing.T) {
	for _, p := range []api.Program{parse(t, large("use x", 1, 256)), parse(t, large("call m", 2, 255)), parse(t, large("x = y", 1, 255))} {
		if _, err := validate.Check(p); err != api.OK || len(nodes.List(p)) < 240 {
			t.Errorf("Check of a large program with %d nodes is %v", len(nodes.List(p)), err)
		}
		compare(t, p)
	}
	if list := nodes.List(parse(t, large("use x", 1, 256))); len(list) != 256 || list[255] != exit(0) {
		t.Errorf("the largest program has the nodes %v", list)
	}
	hasNone(t, parse(t, large("use x", 1, 257)))
	text := "func m; block b"
	for x := range 64 {
		text += "; use x" + strconv.Itoa(x)
		if x%31 == 30 {
			text += "; return; block b" + strconv.Itoa(x)
		}
	}
	compare(t, parse(t, text+"; return; end"))
	hasNone(t, parse(t, text+"; use y; return; end"))
}

// numbers generates the same numbers in each run.
type numbers struct{ state uint64 }

func (n *numbers) below(limit int) int {
	n.state = n.state*6364136223846793005 + 1442695040888963407
	return int(n.state >> 33 % uint64(limit))
}

// generate returns the text of a program that is valid unless it has too many nodes.
func generate(n *numbers) string {
	var lines []string
	funcs := 1 + n.below(1+n.below(8))
	for f := range funcs {
		lines = append(lines, "func "+"mfghpqrs"[f:f+1])
		blocks := 1 + n.below(1+n.below(10))
		name := func() string { return "b" + strconv.Itoa(n.below(blocks)) }
		for b := range blocks {
			lines = append(lines, "block b"+strconv.Itoa(b))
			for range n.below(1 + n.below(31)) {
				called := n.below(funcs)
				lines = append(lines, []string{"x = y", "y =", "use x y", "call " + "mfghpqrs"[called:called+1], "source x", "sink y", "sanitize x"}[n.below(7)])
			}
			lines = append(lines, []string{"return", "goto " + name(), "branch x " + name() + " " + name()}[n.below(3)])
		}
		lines = append(lines, "end")
	}
	return strings.Join(lines, ";")
}

// P7.1 to P7.4: larger programs, compared with the reference, and the consequences of the chapter.
func TestGeneratedPrograms(t *testing.T) {
	n := &numbers{1}
	valid := 0
	for range 200 {
		p := parse(t, generate(n))
		if _, err := validate.Check(p); err != api.OK {
			hasNone(t, p)
			continue
		}
		valid++
		compare(t, p)
		list := strings.Fields(labels(p))
		if size, _ := validate.Sizes(p); len(list) != size {
			t.Errorf("%q has %d nodes, but the size %d", syntax.Inline(p), len(list), size)
		}
		slices.Sort(list)
		if len(slices.Compact(list)) != len(list) {
			t.Errorf("two nodes of %q have the same label", syntax.Inline(p))
		}
	}
	if valid < 150 || valid == 200 {
		t.Errorf("%d programs are valid", valid)
	}
}

// R2: the results share no memory with the program or with another result.
func TestMemory(t *testing.T) {
	p := parse(t, "func m; block b; use x y; call m; branch x b b; end")
	before := copied(p)
	for _, n := range []api.Node{at(0, 0, 0), at(0, 0, 1), back(0, 0, 1), at(0, 0, 2)} {
		first, _ := nodes.Stmt(p, n)
		second, _ := nodes.Stmt(p, n)
		text := stmtText(second)
		for _, names := range [][]string{first.Uses, first.Targets} {
			for i := range names {
				names[i] = "z"
			}
			_ = append(names[:0], "z")
		}
		if !syntax.Equal(p, before) || stmtText(second) != text {
			t.Errorf("the statement of %v shares memory with the program or with another result", n)
		}
	}
	first, second := nodes.List(p), nodes.List(p)
	for i := range first {
		first[i] = api.Node{}
	}
	if want, _ := reference(p); !slices.Equal(second, want) || !slices.Equal(nodes.List(p), want) {
		t.Errorf("the lists of nodes share memory")
	}
}

// R3: a nil list and an empty one are equal.
func TestEmptyLists(t *testing.T) {
	p := parse(t, "func m; block b; x =; call m; return; end")
	for i := range p.Funcs[0].Blocks[0].Stmts {
		s := &p.Funcs[0].Blocks[0].Stmts[i]
		s.Uses, s.Targets = append([]string{}, s.Uses...), append([]string{}, s.Targets...)
	}
	compare(t, p)
	compareAround(t, p)
}
