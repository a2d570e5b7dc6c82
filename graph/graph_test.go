package graph_test

import (
	"math"
	"reflect"
	"slices"
	"strconv"
	"strings"
	"testing"

	"flowquery/api"
	"flowquery/graph"
	"flowquery/nodes"
	"flowquery/syntax"
	"flowquery/validate"
)

// parse returns the program of a text that must be well formed.
func parse(t *testing.T, text string) api.Program {
	t.Helper()
	p, line, col, err := syntax.Parse(text)
	if err != api.OK {
		t.Fatalf("Parse(%q) is %v at %d, %d", text, err, line, col)
	}
	return p
}

// build returns the graph of a text that must be that of a valid program.
func build(t *testing.T, text string) api.Graph {
	t.Helper()
	g, err := graph.Build(parse(t, text))
	if err != api.OK {
		t.Fatalf("Build of %q is %v", text, err)
	}
	return g
}

// copiedProgram returns the same program in new memory.
func copiedProgram(p api.Program) api.Program {
	q := api.Program{Funcs: slices.Clone(p.Funcs)}
	for f := range q.Funcs {
		blocks := slices.Clone(q.Funcs[f].Blocks)
		for b := range blocks {
			stmts := slices.Clone(blocks[b].Stmts)
			for s := range stmts {
				stmts[s].Uses, stmts[s].Targets = slices.Clone(stmts[s].Uses), slices.Clone(stmts[s].Targets)
			}
			blocks[b].Stmts = stmts
		}
		q.Funcs[f].Blocks = blocks
	}
	return q
}

// copiedLists returns the same lists in new memory.
func copiedLists(lists [][]int) [][]int {
	result := slices.Clone(lists)
	for i := range result {
		result[i] = slices.Clone(result[i])
	}
	return result
}

// copiedGraph returns the same graph in new memory.
func copiedGraph(g api.Graph) api.Graph {
	return api.Graph{Nodes: slices.Clone(g.Nodes), Succ: copiedLists(g.Succ), Pred: copiedLists(g.Pred)}
}

// equal reports whether two graphs are equal; a nil list and an empty one are equal.
func equal(g, h api.Graph) bool {
	same := func(l, m [][]int) bool { return slices.EqualFunc(l, m, slices.Equal) }
	return slices.Equal(g.Nodes, h.Nodes) && same(g.Succ, h.Succ) && same(g.Pred, h.Pred)
}

// isEmpty reports whether g is the zero graph.
func isEmpty(g api.Graph) bool { return len(g.Nodes)+len(g.Succ)+len(g.Pred) == 0 }

// text returns lists as a text: the elements of each, and a semicolon between them.
func text(lists [][]int) string {
	var parts []string
	for _, list := range lists {
		var words []string
		for _, a := range list {
			words = append(words, strconv.Itoa(a))
		}
		parts = append(parts, strings.Join(words, " "))
	}
	return strings.Join(parts, ";")
}

// lists returns the lists of such a text.
func lists(t *testing.T, text string) [][]int {
	t.Helper()
	var result [][]int
	for _, part := range strings.Split(text, ";") {
		var list []int
		for _, word := range strings.Fields(part) {
			a, err := strconv.Atoi(word)
			if err != nil {
				t.Fatal(err)
			}
			list = append(list, a)
		}
		result = append(result, list)
	}
	return result
}

// graphOf returns the graph with the successors and predecessors of texts, whose nodes are no nodes of a program.
func graphOf(t *testing.T, succ, pred string) api.Graph {
	t.Helper()
	s := lists(t, succ)
	return api.Graph{Nodes: make([]api.Node, len(s)), Succ: s, Pred: lists(t, pred)}
}

// edge is an edge between two nodes, given by their numbers.
type edge struct{ from, to int }

// assemble returns the graph with these nodes and edges, which may be in any order and occur many times.
func assemble(list []api.Node, edges []edge) api.Graph {
	g := api.Graph{Nodes: list, Succ: make([][]int, len(list)), Pred: make([][]int, len(list))}
	for a := range list {
		for b := range list {
			if slices.Contains(edges, edge{a, b}) {
				g.Succ[a] = append(g.Succ[a], b)
				g.Pred[b] = append(g.Pred[b], a)
			}
		}
	}
	return g
}

// line is a line of a function: the label of its node, and its words.
type line struct {
	label string
	words []string
}

// scan returns the labels of the nodes of a valid program in the order of their numbers, the lines of each function by its
// name, with the names of its blocks before them, and the names of the functions in order, all from the text.
func scan(p api.Program) (labels []string, body map[string][]line, funcs []string) {
	body = map[string][]line{}
	f, b, s := "", "", 0
	for _, row := range strings.Split(strings.TrimSuffix(syntax.Print(p), "\n"), "\n") {
		words := strings.Fields(row)
		switch words[0] {
		case "func":
			f = words[1]
			funcs = append(funcs, f)
			labels = append(labels, f+".entry")
		case "block":
			b, s = words[1], 0
		case "end":
			labels = append(labels, f+".exit")
		default:
			label := f + "." + b + "." + strconv.Itoa(s)
			labels = append(labels, label)
			if words[0] == "call" {
				labels = append(labels, label+"+")
			}
			body[f] = append(body[f], line{label, words})
			s++
		}
	}
	return labels, body, funcs
}

// reference returns the supergraph of a valid program, from the labels and lines of its text.
func reference(p api.Program) api.Graph {
	labels, body, funcs := scan(p)
	var edges []edge
	connect := func(from, to string) {
		edges = append(edges, edge{slices.Index(labels, from), slices.Index(labels, to)})
	}
	for _, f := range funcs {
		connect(f+".entry", body[f][0].label)
		for i, l := range body[f] {
			switch l.words[0] {
			case "goto":
				connect(l.label, f+"."+l.words[1]+".0")
			case "branch":
				connect(l.label, f+"."+l.words[2]+".0")
				connect(l.label, f+"."+l.words[3]+".0")
			case "return":
				connect(l.label, f+".exit")
			case "call":
				connect(l.label, l.words[1]+".entry")
				connect(l.words[1]+".exit", l.label+"+")
				connect(l.label+"+", body[f][i+1].label)
			default:
				connect(l.label, body[f][i+1].label)
			}
		}
	}
	return assemble(nodes.List(p), edges)
}

// isValid is the definition of a valid graph.
func isValid(g api.Graph) bool {
	n := len(g.Nodes)
	if n == 0 || n > 256 || len(g.Succ) != n || len(g.Pred) != n {
		return false
	}
	edges := 0
	for _, l := range [][][]int{g.Succ, g.Pred} {
		for _, list := range l {
			for i, a := range list {
				if a < 0 || a >= n || i > 0 && list[i-1] >= a {
					return false
				}
			}
		}
	}
	for a := range n {
		edges += len(g.Succ[a])
		for b := range n {
			if slices.Contains(g.Succ[a], b) != slices.Contains(g.Pred[b], a) {
				return false
			}
		}
	}
	return edges <= 1024
}

// reachable is the definition of Reach: the nodes are added as long as there is an edge to a new one.
func reachable(g api.Graph, from []int) []int {
	if !isValid(g) {
		return nil
	}
	in := make([]bool, len(g.Nodes))
	for _, a := range from {
		if a < 0 || a >= len(in) {
			return nil
		}
		in[a] = true
	}
	for grows := true; grows; {
		grows = false
		for b := range in {
			if !in[b] && slices.ContainsFunc(g.Pred[b], func(a int) bool { return in[a] }) {
				in[b], grows = true, true
			}
		}
	}
	var list []int
	for a, ok := range in {
		if ok {
			list = append(list, a)
		}
	}
	return list
}

// checkReach compares Reach with its definition.
func checkReach(t *testing.T, g api.Graph, from []int) {
	t.Helper()
	beforeGraph, beforeFrom := copiedGraph(g), slices.Clone(from)
	got := graph.Reach(g, from)
	if want := reachable(g, from); !slices.Equal(got, want) {
		t.Errorf("Reach(%q, %v) = %v, want %v", text(g.Succ), from, got, want)
	}
	if !reflect.DeepEqual(g, beforeGraph) || !slices.Equal(from, beforeFrom) {
		t.Errorf("Reach(%q, %v) modified its arguments", text(beforeGraph.Succ), beforeFrom)
	}
}

// checkGraph compares all functions of graphs with their definitions.
func checkGraph(t *testing.T, g api.Graph) {
	t.Helper()
	before := copiedGraph(g)
	valid, edges := isValid(g), 0
	if valid {
		edges = len(slices.Concat(g.Succ...))
	}
	if got := graph.Valid(g); got != valid {
		t.Errorf("Valid(%q, %q) = %v for %d nodes", text(g.Succ), text(g.Pred), got, len(g.Nodes))
	}
	if got := graph.Edges(g); got != edges {
		t.Errorf("Edges(%q, %q) = %d, want %d", text(g.Succ), text(g.Pred), got, edges)
	}
	reversed, err := graph.Reverse(g)
	if valid && (err != api.OK || !equal(reversed, api.Graph{Nodes: g.Nodes, Succ: g.Pred, Pred: g.Succ})) || !valid && (err != api.ErrInvalid || !isEmpty(reversed)) {
		t.Errorf("Reverse(%q, %q) = %q, %q, %v", text(g.Succ), text(g.Pred), text(reversed.Succ), text(reversed.Pred), err)
	}
	for a := -1; a <= min(len(g.Nodes), 4); a++ {
		checkReach(t, g, []int{a})
	}
	checkReach(t, g, nil)
	if !reflect.DeepEqual(g, before) {
		t.Errorf("the graph %q, %q was modified", text(before.Succ), text(before.Pred))
	}
}

// compare checks the graph of a valid program, and all functions with it.
func compare(t *testing.T, p api.Program) {
	t.Helper()
	before := copiedProgram(p)
	g, err := graph.Build(p)
	if want := reference(p); err != api.OK || !equal(g, want) {
		t.Fatalf("Build of %q = %q, %q, %v, want %q", syntax.Inline(p), text(g.Succ), text(g.Pred), err, text(want.Succ))
	}
	if !reflect.DeepEqual(p, before) {
		t.Fatalf("the program %q was modified", syntax.Inline(before))
	}
	if size, edges := validate.Sizes(p); !graph.Valid(g) || len(g.Nodes) != size || graph.Edges(g) > edges {
		t.Errorf("the graph of %q has %d nodes and %d edges, but the sizes are %d and %d", syntax.Inline(p), len(g.Nodes), graph.Edges(g), size, edges)
	}
	checkGraph(t, g)
}

// rejects checks that Build returns no graph of a program, but an error, which is that of Check.
func rejects(t *testing.T, p api.Program, want api.Errno) {
	t.Helper()
	before := copiedProgram(p)
	_, checked := validate.Check(p)
	if g, err := graph.Build(p); err != want || checked != want || !isEmpty(g) {
		t.Errorf("Build of %v = %v, %v, want the error %v, and that of Check is %v", p, g, err, want, checked)
	}
	if !reflect.DeepEqual(p, before) {
		t.Errorf("the program %v was modified", before)
	}
}

// P8.1: the examples of the chapter.
func TestExamples(t *testing.T) {
	g := build(t, "func m; block b; branch x b b; end")
	if text(g.Succ) != "1;1;" || text(g.Pred) != ";0 1;" || graph.Edges(g) != 2 {
		t.Errorf("the first example has the successors %q and the predecessors %q", text(g.Succ), text(g.Pred))
	}
	g = build(t, "func m; block b; call f; call f; return; end; func f; block b; return; end")
	if got := g.Succ[9]; !slices.Equal(got, []int{2, 4}) {
		t.Errorf("the exit of a function that is called twice leads to %v", got)
	}
	g = build(t, "func m; block b; return; block c; use x; goto b; end")
	if len(g.Pred[2]) > 0 || !slices.Equal(g.Pred[3], []int{2}) || !slices.Equal(graph.Reach(g, []int{0}), []int{0, 1, 4}) {
		t.Errorf("the graph with a block to which nothing leads has the predecessors %q", text(g.Pred))
	}
}

// P8.1: the edges of each kind of node, in ascending order and each of them once.
func TestBuild(t *testing.T) {
	for program, want := range map[string]string{
		"func m; block b; return; end": "1;2;",
		"func m; block b; goto b; end": "1;1;",
		"func m; block b; x = y; use x; source x; sink x; sanitize x; x =; return; end":                                "1;2;3;4;5;6;7;8;",
		"func m; block b; branch x c d; block c; return; block d; return; end":                                         "1;2 3;4;4;",
		"func m; block b; branch x d c; block c; return; block d; return; end":                                         "1;2 3;4;4;",
		"func m; block b; branch x c c; block c; branch x c b; end":                                                    "1;2;1 2;",
		"func m; block b; branch x b b; block c; branch x b b; end":                                                    "1;1;1;",
		"func m; block b; use x; goto c; block c; use x; goto b; end":                                                  "1;2;3;4;1;",
		"func m; block b; call m; return; end":                                                                         "1;0;3;4;2",
		"func m; block b; call m; call m; return; end":                                                                 "1;0;3;0;5;6;2 4",
		"func m; block b; call f; return; end; func f; block b; return; end":                                           "1;5;3;4;;6;7;2",
		"func m; block b; return; end; func f; block b; call m; return; end":                                           "1;2;5;4;0;6;7;",
		"func m; block b; call f; goto b; end; func f; block b; call f; call m; return; end":                           "1;5;3;1;9;6;5;8;0;10;11;2 7",
		"func m; block c; goto b; block b; return; end; func f; block b; goto c; block c; use x; goto b; end":          "1;2;3;;5;6;7;5;",
		"func f; block f; goto m; block m; call m; return; end; func m; block f; call f; goto m; block m; goto f; end": "1;2;6;4;5;8;7;0;9;10;7;3",
	} {
		p := parse(t, program)
		g, err := graph.Build(p)
		if err != api.OK || text(g.Succ) != want || !slices.Equal(g.Nodes, nodes.List(p)) {
			t.Errorf("Build of %q has the successors %q and the error %v, want %q", program, text(g.Succ), err, want)
		}
		compare(t, p)
	}
}

// P8.1: the predecessors are those of the successors, in ascending order.
func TestBuildPredecessors(t *testing.T) {
	for program, want := range map[string]string{
		"func m; block b; return; end":                                                       ";0;1",
		"func m; block b; branch x b c; block c; branch x c b; end":                          ";0 1 2;1 2;",
		"func m; block b; call m; call m; return; end":                                       "1 3;0;6;2;6;4;5",
		"func m; block b; call f; goto b; end; func f; block b; call f; call m; return; end": "8;0 3;11;2;;1 6;5;11;7;4;9;10",
	} {
		if got := text(build(t, program).Pred); got != want {
			t.Errorf("Build of %q has the predecessors %q, want %q", program, got, want)
		}
	}
}

// P8.1, R5: programs that follow the grammar but that Check rejects have no graph.
func TestRejectedPrograms(t *testing.T) {
	for program, want := range map[string]api.Errno{
		"func m; block b; return; end; func m; block b; return; end":                                       api.ErrDuplicate,
		"func m; block b; return; block b; return; end":                                                    api.ErrDuplicate,
		"func m; block b; x = y; end":                                                                      api.ErrSyntax,
		"func m; block b; call m; end":                                                                     api.ErrSyntax,
		"func m; block b; return; return; end":                                                             api.ErrSyntax,
		"func m; block b; goto c; end":                                                                     api.ErrName,
		"func m; block b; call f; return; end":                                                             api.ErrName,
		"func m; block b; return; end; func f; block b; branch x b m; end":                                 api.ErrName,
		"func m; block b; call b; return; end; func f; block b; call m; end":                               api.ErrName,
		"func m; block b; call m; return; end; func f; block b; goto b; end; func f; block b; goto b; end": api.ErrDuplicate,
	} {
		rejects(t, parse(t, program), want)
	}
}

// P8.1, R1, R5: programs that are not well formed have no graph.
func TestNotWellFormed(t *testing.T) {
	stmt := func(stmts ...api.Stmt) api.Program {
		return api.Program{Funcs: []api.Func{{Name: "m", Blocks: []api.Block{{Name: "b", Stmts: stmts}}}}}
	}
	finish := api.Stmt{Op: api.OpReturn}
	for _, p := range []api.Program{
		{}, {Funcs: []api.Func{}}, {Funcs: make([]api.Func, 2)}, {Funcs: []api.Func{{Name: "m"}}}, {Funcs: []api.Func{{Name: "m", Blocks: make([]api.Block, 2)}}},
		{Funcs: append(stmt(finish).Funcs, api.Func{Name: "f"})}, {Funcs: []api.Func{{Blocks: []api.Block{{Name: "b", Stmts: []api.Stmt{finish}}}}}},
		stmt(), stmt(api.Stmt{}), stmt(api.Stmt{Op: 10}), stmt(api.Stmt{Op: math.MinInt}, finish), stmt(api.Stmt{Op: api.OpCall}, finish), stmt(api.Stmt{Op: api.OpCall, Targets: []string{"m", "m"}}, finish),
		stmt(api.Stmt{Op: api.OpGoto}), stmt(api.Stmt{Op: api.OpBranch, Uses: []string{"x"}, Targets: []string{"b"}}), stmt(api.Stmt{Op: api.OpReturn, Targets: []string{"b"}}), stmt(slices.Repeat([]api.Stmt{finish}, 33)...),
	} {
		rejects(t, p, api.ErrInvalid)
	}
}

// large returns the text of a program of one function with a number of nodes: 16 blocks, all but the last of which have
// lines of 15 nodes and a terminator.
func large(line string, lineNodes int, end string, count int) string {
	text, left := "func m", count-2
	for b := range 16 {
		text += "; block b" + strconv.Itoa(b)
		most := 15
		if b == 15 {
			most = left - 1
		}
		for n := lineNodes; n <= most; n += lineNodes {
			text += "; " + line
			left -= lineNodes
		}
		text += "; " + end
		left--
	}
	return text + "; end"
}

// P8.1: programs with MaxNodes nodes, and one more; those with MaxVars variables, and one more; and those with the most
// edges from one node, and to one node.
func TestLargePrograms(t *testing.T) {
	for _, program := range []string{large("use x", 1, "return", 256), large("x = y", 1, "branch x b0 b15", 256), large("call m", 2, "branch x b15 b0", 255)} {
		p := parse(t, program)
		if g, err := graph.Build(p); err != api.OK || len(g.Nodes) < 240 {
			t.Errorf("Build of a large program with %d nodes is %v", len(g.Nodes), err)
		}
		compare(t, p)
	}
	rejects(t, parse(t, large("use x", 1, "return", 257)), api.ErrFull)
	program := "func m; block b"
	for x := range 64 {
		program += "; use x" + strconv.Itoa(x)
		if x%31 == 30 {
			program += "; return; block b" + strconv.Itoa(x)
		}
	}
	compare(t, parse(t, program+"; return; end"))
	rejects(t, parse(t, program+"; use y; return; end"), api.ErrFull)
	calls := "; " + strings.Repeat("call f; ", 31)
	compare(t, parse(t, "func m; block b"+calls+"goto c; block c"+calls+"return; end; func f; block b"+calls+"return; end"))
}

// numbers generates the same numbers in each run.
type numbers struct{ state uint64 }

func (n *numbers) below(limit int) int {
	n.state = n.state*6364136223846793005 + 1442695040888963407
	return int(n.state >> 33 % uint64(limit))
}

// generate returns the text of a program that is valid unless it has too many nodes.
func generate(n *numbers) string {
	var rows []string
	funcs := 1 + n.below(1+n.below(8))
	for f := range funcs {
		rows = append(rows, "func "+"qfbhpmrs"[f:f+1])
		blocks := 1 + n.below(1+n.below(10))
		name := func() string { return string(rune('a' + (n.below(blocks)*7+3)%10)) }
		for b := range blocks {
			rows = append(rows, "block "+string(rune('a'+(b*7+3)%10)))
			for range n.below(1 + n.below(31)) {
				called := n.below(funcs)
				rows = append(rows, []string{"x = y", "y =", "use x y", "call " + "qfbhpmrs"[called:called+1], "source x", "sink y", "sanitize x"}[n.below(7)])
			}
			rows = append(rows, []string{"return", "goto " + name(), "branch x " + name() + " " + name()}[n.below(3)])
		}
		rows = append(rows, "end")
	}
	return strings.Join(rows, ";")
}

// P8.1 to P8.4: larger programs, compared with the reference, and the consequences of the chapter.
func TestGeneratedPrograms(t *testing.T) {
	n := &numbers{1}
	valid := 0
	for range 200 {
		p := parse(t, generate(n))
		if _, err := validate.Check(p); err != api.OK {
			rejects(t, p, err)
			continue
		}
		valid++
		compare(t, p)
	}
	if valid < 150 || valid == 200 {
		t.Errorf("%d programs are valid", valid)
	}
}

// P8.2 to P8.4: graphs that are valid, and those that are not.
func TestValid(t *testing.T) {
	for _, c := range []struct {
		succ, pred string
		edges      int
	}{
		{"", "", 0}, {"0", "0", 1}, {";", ";", 0}, {"1;", ";0", 1}, {"1;0", "1;0", 2}, {"0 1;0 1", "0 1;0 1", 4}, {"1 2;2;0", "2;0;0 1", 4}, {";;0 1 2", "2;2;2", 3},
		{"0", "", -1}, {"", "0", -1}, {"1;", "1;", -1}, {"1;", ";", -1}, {";", "1;", -1}, {"1;", ";0 1", -1}, {"1;0", "1;", -1}, {";0 1", "1;0", -1}, {"0 1;0", "0 1;1", -1},
		{"1 0;", "0;0", -1}, {"0 0;", "0;", -1}, {"0;", "0 0;", -1}, {"0;0", "1 0;", -1}, {"0;0", "0 0 1;", -1}, {"0 1 1;", "0;0", -1}, {"0 1 0;", "0;0", -1},
		{"1", "", -1}, {"", "1", -1}, {"1", "1", -1}, {"-1", "", -1}, {"", "-1", -1}, {"-1", "-1", -1}, {"-1 0", "0", -1}, {"0", "-1 0", -1}, {"0 1", "0", -1}, {"0", "0 1", -1}, {"2;", ";0", -1}, {";2", ";", -1},
		{"9223372036854775807", "", -1}, {"0 9223372036854775807", "0", -1}, {"-9223372036854775808", "", -1}, {"-9223372036854775808 0", "0", -1}, {"", "9223372036854775807", -1}, {"0", "-9223372036854775808 0", -1}, {"4294967296", "", -1}, {"4294967296", "0", -1},
		{"1;0", ";0;", -1}, {"1;", ";0;", -1}, {"1;;", ";0", -1}, {"", ";", -1}, {";", "", -1},
	} {
		g := graphOf(t, c.succ, c.pred)
		if got := graph.Valid(g); got != (c.edges >= 0) {
			t.Errorf("Valid(%q, %q) = %v", c.succ, c.pred, got)
		}
		if got := graph.Edges(g); got != max(c.edges, 0) {
			t.Errorf("Edges(%q, %q) = %d, want %d", c.succ, c.pred, got, max(c.edges, 0))
		}
		checkGraph(t, g)
	}
}

// star returns a graph with these numbers of nodes and lists in which an edge leads from each node to one of them, which need
// not have a list of predecessors.
func star(size, succ, pred, to int) api.Graph {
	g := api.Graph{Nodes: make([]api.Node, size), Succ: make([][]int, succ), Pred: make([][]int, pred)}
	for a := range succ {
		g.Succ[a] = []int{to}
		if to < pred {
			g.Pred[to] = append(g.Pred[to], a)
		}
	}
	return g
}

// P8.2 to P8.4, R1: graphs with other numbers of nodes than of lists.
func TestLengths(t *testing.T) {
	for size := range 4 {
		for succ := range 4 {
			for pred := range 4 {
				g := api.Graph{Nodes: make([]api.Node, size), Succ: make([][]int, succ), Pred: make([][]int, pred)}
				if got := graph.Valid(g); got != (size > 0 && size == succ && size == pred) {
					t.Errorf("Valid of %d nodes, %d and %d lists = %v", size, succ, pred, got)
				}
				checkGraph(t, g)
				for to := range 4 {
					checkGraph(t, star(size, succ, pred, to))
				}
			}
		}
	}
	checkGraph(t, api.Graph{})
	checkGraph(t, api.Graph{Nodes: []api.Node{}, Succ: [][]int{}, Pred: [][]int{}})
}

// P8.2 to P8.4: all graphs with one or two nodes and short lists.
func TestSmallGraphs(t *testing.T) {
	valid := 0
	pool := [][]int{nil, {0}, {1}, {0, 1}, {1, 0}, {0, 0}, {2}, {-1}, {-1, 0}, {0, 1, 1}}
	for _, s := range pool {
		for _, p := range pool {
			checkGraph(t, api.Graph{Nodes: make([]api.Node, 1), Succ: [][]int{s}, Pred: [][]int{p}})
			for _, u := range pool {
				for _, q := range pool {
					g := api.Graph{Nodes: make([]api.Node, 2), Succ: [][]int{s, u}, Pred: [][]int{p, q}}
					if graph.Valid(g) {
						valid++
					}
					checkGraph(t, g)
				}
			}
		}
	}
	if valid != 16 {
		t.Errorf("%d graphs with two nodes are valid", valid)
	}
}

// dense returns a graph of a size with the first edges in the order of their nodes.
func dense(size, count int) api.Graph {
	var edges []edge
	for i := range count {
		edges = append(edges, edge{i / size, i % size})
	}
	return assemble(make([]api.Node, size), edges)
}

// P8.2 to P8.4: graphs with MaxNodes nodes and with MaxEdges edges, and with one more; lists that are long.
func TestLimits(t *testing.T) {
	for _, c := range []struct {
		size, edges int
		valid       bool
	}{{256, 0, true}, {257, 0, false}, {256, 1024, true}, {256, 1025, false}, {257, 1, false}, {32, 1024, true}, {33, 1024, true}, {33, 1025, false}, {64, 4096, false}, {1000, 1000, false}} {
		g := dense(c.size, c.edges)
		if got := graph.Valid(g); got != c.valid {
			t.Errorf("Valid of a graph with %d nodes and %d edges = %v", c.size, c.edges, got)
		}
		checkGraph(t, g)
	}
	long := slices.Repeat([]int{0}, 1<<20)
	counted := make([]int, 1<<20)
	for i := range counted {
		counted[i] = i
	}
	for _, list := range [][]int{long, counted} {
		checkGraph(t, api.Graph{Nodes: make([]api.Node, 1), Succ: [][]int{list}, Pred: [][]int{{0}}})
		checkGraph(t, api.Graph{Nodes: make([]api.Node, 1), Succ: [][]int{{0}}, Pred: [][]int{list}})
	}
	checkReach(t, dense(2, 1), long)
	checkReach(t, dense(2, 1), counted)
}

// P8.3: the nodes of a graph can be any nodes, and Reverse keeps them; twice, it is the identity.
func TestReverse(t *testing.T) {
	g := graphOf(t, "1 2;2;0;", "2;0;0 1;")
	g.Nodes = []api.Node{{}, {Kind: -5, Func: math.MaxInt, Block: math.MinInt, Stmt: 7}, {}, {Kind: api.NodeEntry}}
	reversed, err := graph.Reverse(g)
	if err != api.OK || text(reversed.Succ) != "2;0;0 1;" || text(reversed.Pred) != "1 2;2;0;" || !slices.Equal(reversed.Nodes, g.Nodes) {
		t.Errorf("Reverse of a graph = %v, %v", reversed, err)
	}
	if again, err := graph.Reverse(reversed); err != api.OK || !equal(again, g) {
		t.Errorf("Reverse of the reversed graph = %v, %v", again, err)
	}
	checkGraph(t, g)
	for _, bad := range []api.Graph{{}, graphOf(t, "1;", "1;"), graphOf(t, "0 0", "0 0"), dense(257, 1), dense(256, 1025)} {
		if reversed, err := graph.Reverse(bad); err != api.ErrInvalid || !isEmpty(reversed) {
			t.Errorf("Reverse of a graph that is not valid = %v, %v", reversed, err)
		}
	}
}

// P8.4: paths of all lengths, also back to where they begin, from several nodes in any order.
func TestReach(t *testing.T) {
	g := graphOf(t, "3;0 1;;4;0 5;;2 7;6", "1 4;1;6;0;3;4;7;6")
	for _, c := range []struct{ from, want []int }{
		{nil, nil}, {[]int{}, nil}, {[]int{0}, []int{0, 3, 4, 5}}, {[]int{1}, []int{0, 1, 3, 4, 5}}, {[]int{2}, []int{2}}, {[]int{3}, []int{0, 3, 4, 5}}, {[]int{4}, []int{0, 3, 4, 5}}, {[]int{5}, []int{5}},
		{[]int{6}, []int{2, 6, 7}}, {[]int{7}, []int{2, 6, 7}}, {[]int{5, 2}, []int{2, 5}}, {[]int{7, 5, 7, 5}, []int{2, 5, 6, 7}}, {[]int{6, 1}, []int{0, 1, 2, 3, 4, 5, 6, 7}}, {[]int{2, 2, 2}, []int{2}},
		{[]int{-1}, nil}, {[]int{8}, nil}, {[]int{0, 8}, nil}, {[]int{8, 0}, nil}, {[]int{0, -1, 1}, nil}, {[]int{math.MinInt}, nil}, {[]int{math.MaxInt}, nil}, {[]int{0, 1 << 32}, nil},
	} {
		if got := graph.Reach(g, c.from); !slices.Equal(got, c.want) {
			t.Errorf("Reach from %v = %v, want %v", c.from, got, c.want)
		}
		checkReach(t, g, c.from)
	}
	for _, bad := range []api.Graph{{}, graphOf(t, "1;", "1;"), graphOf(t, "1;", ";"), graphOf(t, "0 0", "0 0"), dense(257, 1), dense(256, 1025)} {
		for _, from := range [][]int{nil, {0}, {-1}, {1}} {
			if got := graph.Reach(bad, from); len(got) > 0 {
				t.Errorf("Reach from %v in a graph that is not valid = %v", from, got)
			}
		}
	}
	long := make([]edge, 255)
	for a := range long {
		long[a] = edge{255 - a, 254 - a}
	}
	if got := graph.Reach(assemble(make([]api.Node, 256), long), []int{255}); len(got) != 256 || !slices.IsSorted(got) {
		t.Errorf("Reach along the longest path = %v", got)
	}
}

// P8.2 to P8.4: graphs with a few edges, as they are, and with a change to one of their lists.
func TestGeneratedGraphs(t *testing.T) {
	n := &numbers{2}
	valid := 0
	for range 2000 {
		size := 1 + n.below(12)
		var edges []edge
		for range n.below(2 * size) {
			edges = append(edges, edge{n.below(size), n.below(size)})
		}
		g := assemble(make([]api.Node, size), edges)
		checkGraph(t, g)
		var from []int
		for range n.below(4) {
			from = append(from, n.below(size+1))
		}
		checkReach(t, g, from)
		list := &g.Succ[n.below(size)]
		if n.below(2) == 0 {
			list = &g.Pred[n.below(size)]
		}
		switch {
		case len(*list) > 0 && n.below(3) == 0:
			*list = slices.Delete(*list, 0, 1)
		case len(*list) > 0 && n.below(2) == 0:
			(*list)[n.below(len(*list))] = n.below(size+2) - 1
		default:
			*list = append(*list, n.below(size+2)-1)
		}
		if isValid(g) {
			valid++
		}
		checkGraph(t, g)
	}
	if valid == 0 || valid > 500 {
		t.Errorf("%d graphs are valid after a change", valid)
	}
}

// overwrite changes all elements of a graph, and what lies behind them up to the capacities. It reports whether no two of the
// lists of the graph share memory.
func overwrite(g api.Graph) bool {
	all := slices.Concat(g.Succ, g.Pred)
	for i, list := range all {
		full := list[:cap(list)]
		for k := range full {
			full[k] = -1 - i
		}
	}
	separate := true
	for i, list := range all {
		separate = separate && !slices.ContainsFunc(list[:cap(list)], func(a int) bool { return a != -1-i })
	}
	clear(g.Nodes[:cap(g.Nodes)])
	for i := range g.Succ {
		g.Succ[i], g.Pred[i] = []int{i}, nil
		separate = separate && g.Succ[i] != nil
	}
	return separate
}

// P8.1, P8.3, P8.4, R2: the results share no memory with the arguments, with another result, or within themselves.
func TestMemory(t *testing.T) {
	p := parse(t, "func m; block b; call f; branch x b c; block c; call f; goto b; end; func f; block b; call m; return; end")
	before, want := copiedProgram(p), reference(p)
	first, _ := graph.Build(p)
	second, _ := graph.Build(p)
	if !overwrite(first) || !equal(second, want) || !syntax.Equal(p, before) {
		t.Errorf("the graph of a program shares memory")
	}
	both := [][]int{{0, 1}, {0}}
	shared := []int{0, 1}
	for _, g := range []api.Graph{
		second,
		{Nodes: make([]api.Node, 2, 4), Succ: both, Pred: both},
		{Nodes: make([]api.Node, 2), Succ: [][]int{shared, shared}, Pred: [][]int{shared, shared}},
		{Nodes: make([]api.Node, 2), Succ: [][]int{shared[:1], shared[1:]}, Pred: [][]int{shared[:1], shared[1:]}},
	} {
		kept := copiedGraph(g)
		checkGraph(t, g)
		first, _ := graph.Reverse(g)
		second, _ := graph.Reverse(g)
		if !overwrite(first) || !equal(g, kept) || !equal(second, api.Graph{Nodes: kept.Nodes, Succ: kept.Pred, Pred: kept.Succ}) {
			t.Errorf("Reverse of %q, %q shares memory", text(kept.Succ), text(kept.Pred))
		}
		for _, from := range [][]int{{0}, kept.Succ[0], g.Succ[0], g.Pred[0]} {
			list := slices.Clone(from)
			reached := graph.Reach(g, from)
			for i := range reached[:cap(reached)] {
				reached[:cap(reached)][i] = -1
			}
			if !equal(g, kept) || !slices.Equal(from, list) {
				t.Errorf("Reach of %q shares memory", text(kept.Succ))
			}
		}
	}
}

// R3: a nil list and an empty one are equal.
func TestEmptyLists(t *testing.T) {
	g := graphOf(t, "1;;", ";0;")
	for a := range g.Succ {
		g.Succ[a], g.Pred[a] = append([]int{}, g.Succ[a]...), append([]int{}, g.Pred[a]...)
	}
	h := copiedGraph(g)
	for a := range h.Succ {
		if len(h.Succ[a]) == 0 {
			h.Succ[a] = nil
		}
	}
	if !graph.Valid(g) || !graph.Valid(h) {
		t.Errorf("Valid with empty lists = %v, with nil lists of successors %v", graph.Valid(g), graph.Valid(h))
	}
	checkGraph(t, g)
	checkGraph(t, h)
	p := parse(t, "func m; block b; x =; call m; return; end")
	for i := range p.Funcs[0].Blocks[0].Stmts {
		s := &p.Funcs[0].Blocks[0].Stmts[i]
		s.Uses, s.Targets = append([]string{}, s.Uses...), append([]string{}, s.Targets...)
	}
	compare(t, p)
}
