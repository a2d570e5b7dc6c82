package validate_test

import (
	"math"
	"reflect"
	"slices"
	"strconv"
	"strings"
	"testing"

	"flowquery/api"
	"flowquery/syntax"
	"flowquery/validate"
)

func assign(def string, uses ...string) api.Stmt {
	return api.Stmt{Op: api.OpAssign, Def: def, Uses: uses}
}

func use(uses ...string) api.Stmt { return api.Stmt{Op: api.OpUse, Uses: uses} }

func call(f string) api.Stmt { return api.Stmt{Op: api.OpCall, Targets: []string{f}} }

func jump(b string) api.Stmt { return api.Stmt{Op: api.OpGoto, Targets: []string{b}} }

func branch(x, b, c string) api.Stmt {
	return api.Stmt{Op: api.OpBranch, Uses: []string{x}, Targets: []string{b, c}}
}

var finish = api.Stmt{Op: api.OpReturn}

func block(name string, stmts ...api.Stmt) api.Block { return api.Block{Name: name, Stmts: stmts} }

func function(name string, blocks ...api.Block) api.Func { return api.Func{Name: name, Blocks: blocks} }

func program(funcs ...api.Func) api.Program { return api.Program{Funcs: funcs} }

// parse returns the program of a text that must be well formed.
func parse(t *testing.T, text string) api.Program {
	t.Helper()
	p, line, col, err := syntax.Parse(text)
	if err != api.OK {
		t.Fatalf("Parse(%q) is %v at %d, %d", text, err, line, col)
	}
	return p
}

func entry(f int) api.Node { return api.Node{Kind: api.NodeEntry, Func: f, Block: -1, Stmt: -1} }

func at(f, b, s int) api.Node { return api.Node{Kind: api.NodeStmt, Func: f, Block: b, Stmt: s} }

// check compares Check of a program with an error and its node.
func check(t *testing.T, p api.Program, node api.Node, err api.Errno) {
	t.Helper()
	if gotNode, gotErr := validate.Check(p); gotNode != node || gotErr != err {
		t.Errorf("Check of %q = %v, %v, want %v, %v", syntax.Inline(p), gotNode, gotErr, node, err)
	}
}

// accepts checks that a text is that of a valid program.
func accepts(t *testing.T, text string) {
	t.Helper()
	check(t, parse(t, text), api.Node{}, api.OK)
}

// rejects checks the error of a text that follows the grammar.
func rejects(t *testing.T, text string, node api.Node, err api.Errno) {
	t.Helper()
	check(t, parse(t, text), node, err)
}

// numbers generates the same numbers in each run.
type numbers struct{ state uint64 }

func (n *numbers) below(limit int) int {
	n.state = n.state*6364136223846793005 + 1442695040888963407
	return int(n.state >> 33 % uint64(limit))
}

func pick[T any](n *numbers, list []T) T { return list[n.below(len(list))] }

// copied returns the same program in new memory.
func copied(p api.Program) api.Program {
	q := api.Program{Funcs: slices.Clone(p.Funcs)}
	for f := range q.Funcs {
		blocks := slices.Clone(q.Funcs[f].Blocks)
		for b := range blocks {
			stmts := slices.Clone(blocks[b].Stmts)
			for s := range stmts {
				stmts[s].Uses, stmts[s].Targets = slices.Clone(stmts[s].Uses), slices.Clone(stmts[s].Targets)
			}
			blocks[b].Stmts = stmts
		}
		q.Funcs[f].Blocks = blocks
	}
	return q
}

// failure is an error with its node.
type failure struct {
	node api.Node
	err  api.Errno
}

// failures returns all errors of a well-formed program that have a place, in the order in which they are named.
func failures(p api.Program) []failure {
	var list []failure
	for f := range p.Funcs {
		for _, earlier := range p.Funcs[:f] {
			if earlier.Name == p.Funcs[f].Name {
				list = append(list, failure{entry(f), api.ErrDuplicate})
			}
		}
	}
	for f, function := range p.Funcs {
		for b := range function.Blocks {
			for _, earlier := range function.Blocks[:b] {
				if earlier.Name == function.Blocks[b].Name {
					list = append(list, failure{at(f, b, -1), api.ErrDuplicate})
				}
			}
		}
		for b, block := range function.Blocks {
			for s, stmt := range block.Stmts {
				ends := slices.Contains([]int{api.OpGoto, api.OpBranch, api.OpReturn}, stmt.Op)
				if ends && s+1 < len(block.Stmts) || !ends && s+1 == len(block.Stmts) {
					list = append(list, failure{at(f, b, s), api.ErrSyntax})
				}
				for _, target := range stmt.Targets {
					isBlock := slices.ContainsFunc(function.Blocks, func(b api.Block) bool { return b.Name == target })
					isFunc := slices.ContainsFunc(p.Funcs, func(f api.Func) bool { return f.Name == target })
					if stmt.Op == api.OpCall && !isFunc || stmt.Op != api.OpCall && !isBlock {
						list = append(list, failure{at(f, b, s), api.ErrName})
					}
				}
			}
		}
	}
	return list
}

// measure returns the variables, the number of nodes and the number of edges of a well-formed program, from its text.
func measure(p api.Program) (variables []string, nodes, edges int) {
	for _, line := range strings.Split(strings.TrimSuffix(syntax.Print(p), "\n"), "\n") {
		words := strings.Fields(line)
		nodes, edges = nodes+1, edges+1
		switch words[0] {
		case "func":
			nodes++
			words = nil
		case "block", "end":
			nodes, edges = nodes-1, edges-1
			words = nil
		case "call":
			nodes, edges = nodes+1, edges+2
			words = nil
		case "branch":
			edges++
			words = words[1:2]
		case "goto", "return":
			words = nil
		case "use", "source", "sink", "sanitize":
			words = words[1:]
		default:
			words = slices.Delete(words, 1, 2)
		}
		for _, word := range words {
			if !slices.Contains(variables, word) {
				variables = append(variables, word)
			}
		}
	}
	return variables, nodes, edges
}

// compare checks all functions with the references, and that they leave their argument as it is.
func compare(t *testing.T, p api.Program) {
	t.Helper()
	before := copied(p)
	variables, nodes, edges := measure(p)
	want := failure{}
	if list := failures(p); len(list) > 0 {
		want = list[0]
	} else if len(variables) > 64 || nodes > 256 || edges > 1024 {
		want.err = api.ErrFull
	}
	check(t, p, want.node, want.err)
	if got := validate.Variables(p); !slices.Equal(got, variables) {
		t.Fatalf("the variables of %q are %v, want %v", syntax.Inline(p), got, variables)
	}
	if n, e := validate.Sizes(p); n != nodes || e != edges {
		t.Fatalf("the sizes of %q are %d, %d, want %d, %d", syntax.Inline(p), n, e, nodes, edges)
	}
	if !reflect.DeepEqual(p, before) {
		t.Fatalf("the program %q was modified", syntax.Inline(before))
	}
}

// P6.1, P6.2: the examples of the chapter.
func TestExamples(t *testing.T) {
	rejects(t, "func m; block b; x = y; end", api.Node{Kind: api.NodeStmt, Func: 0, Block: 0, Stmt: 0}, api.ErrSyntax)
	rejects(t, "func m; block b; goto c; end", api.Node{Kind: api.NodeStmt, Func: 0, Block: 0, Stmt: 0}, api.ErrName)
	if nodes, edges := validate.Sizes(parse(t, "func m; block b; call m; return; end")); nodes != 5 || edges != 5 {
		t.Errorf("the sizes of the third example are %d, %d", nodes, edges)
	}
}

// P6.1: valid programs. The names of functions, of blocks and of variables have nothing to do with each other.
func TestValidPrograms(t *testing.T) {
	for _, text := range []string{
		"func m; block b; return; end",
		"func m; block b; goto b; end",
		"func m; block b; branch x b b; end",
		"func m; block b; call m; return; end",
		"func m; block b; call f; return; end; func f; block b; call m; goto b; end",
		"func m; block b; x = y z; w =; use x; use y z w; source v; sink v; sanitize y; goto c; block c; branch z b d; block d; return; end",
		"func x; block x; x = x; use x; call x; source x; sink x; sanitize x; branch x x x; end",
		"func m; block m; call m; goto m; block f; call f; goto m; end; func f; block f; goto m; block m; goto f; end",
		"func a; block b; return; end; func b; block b; return; end; func B; block B; return; block b; return; end",
	} {
		accepts(t, text)
	}
}

// P6.1: the name of a function is that of an earlier function; the first such function counts, before all other errors.
func TestDuplicateFunctions(t *testing.T) {
	funcs := func(names string) api.Program {
		p := api.Program{}
		for _, name := range strings.Fields(names) {
			p.Funcs = append(p.Funcs, function(name, block("b", finish)))
		}
		return p
	}
	check(t, funcs("a a"), entry(1), api.ErrDuplicate)
	check(t, funcs("a b a"), entry(2), api.ErrDuplicate)
	check(t, funcs("a b b a"), entry(2), api.ErrDuplicate)
	check(t, funcs("a b c c b a"), entry(3), api.ErrDuplicate)
	check(t, funcs("a a a"), entry(1), api.ErrDuplicate)
	check(t, funcs("a b c d e f g a"), entry(7), api.ErrDuplicate)
	check(t, funcs("a b c d e f g h"), api.Node{}, api.OK)
	check(t, funcs("a A aa a1 a_ abcdefghijklmnop abcdefghijklmnoq"), api.Node{}, api.OK)
	for _, wrong := range []string{
		"block b; return; block b; return",
		"block b; x = y",
		"block b; return; return",
		"block b; goto c",
		"block b; call g; return",
	} {
		rejects(t, "func f; "+wrong+"; end; func f; block b; return; end", entry(1), api.ErrDuplicate)
		rejects(t, "func f; block b; return; end; func f; "+wrong+"; end", entry(1), api.ErrDuplicate)
		rejects(t, "func g; "+wrong+"; end; func f; block b; return; end; func f; block b; return; end", entry(2), api.ErrDuplicate)
	}
}

// P6.1: the name of a block is that of an earlier block of its function; this comes before the errors of statements of the
// same function and of later ones, but after those of earlier functions.
func TestDuplicateBlocks(t *testing.T) {
	blocks := func(names string) string {
		text := ""
		for _, name := range strings.Fields(names) {
			text += "block " + name + "; return; "
		}
		return text
	}
	rejects(t, "func m; "+blocks("a a")+"end", at(0, 1, -1), api.ErrDuplicate)
	rejects(t, "func m; "+blocks("a b a")+"end", at(0, 2, -1), api.ErrDuplicate)
	rejects(t, "func m; "+blocks("a b c c b a")+"end", at(0, 3, -1), api.ErrDuplicate)
	rejects(t, "func m; "+blocks("a b c d e f g h i j k l m n o a")+"end", at(0, 15, -1), api.ErrDuplicate)
	accepts(t, "func m; "+blocks("a b c d e f g h i j k l m n o p")+"end")
	rejects(t, "func m; "+blocks("a b")+"end; func f; "+blocks("a b b")+"end", at(1, 2, -1), api.ErrDuplicate)
	accepts(t, "func m; "+blocks("a b")+"end; func f; "+blocks("b a")+"end")
	for _, wrong := range []string{"x = y", "return; return", "goto d", "call g; return"} {
		rejects(t, "func m; block a; "+wrong+"; "+blocks("b b")+"end", at(0, 2, -1), api.ErrDuplicate)
		rejects(t, "func m; block a; "+wrong+"; "+blocks("a")+"end", at(0, 1, -1), api.ErrDuplicate)
		rejects(t, "func m; "+blocks("a a")+"end; func f; block a; "+wrong+"; end", at(0, 1, -1), api.ErrDuplicate)
		node, err := validate.Check(parse(t, "func m; block a; "+wrong+"; end; func f; "+blocks("a a")+"end"))
		if node.Func != 0 || node.Block != 0 || node.Stmt < 0 || err == api.ErrDuplicate {
			t.Errorf("after %q, a duplicate block of a later function is %v at %v", wrong, err, node)
		}
	}
}

// P6.1: a terminator is the last statement of its block, and no other statement is.
func TestTerminators(t *testing.T) {
	others := []string{"x =", "x = y", "use x", "call m", "source x", "sink x", "sanitize x"}
	for _, other := range others {
		rejects(t, "func m; block b; "+other+"; end", at(0, 0, 0), api.ErrSyntax)
		rejects(t, "func m; block b; "+other+"; "+other+"; end", at(0, 0, 1), api.ErrSyntax)
		rejects(t, "func m; block b; return; block c; x = y; "+other+"; end", at(0, 1, 1), api.ErrSyntax)
		rejects(t, "func m; block b; return; end; func f; block b; "+other+"; block c; return; end", at(1, 0, 0), api.ErrSyntax)
		for _, last := range []string{"goto b", "branch x b b", "return"} {
			accepts(t, "func m; block b; "+last+"; end")
			accepts(t, "func m; block b; "+other+"; "+last+"; end")
			rejects(t, "func m; block b; "+last+"; "+other+"; end", at(0, 0, 0), api.ErrSyntax)
			rejects(t, "func m; block b; "+last+"; "+last+"; end", at(0, 0, 0), api.ErrSyntax)
			rejects(t, "func m; block b; "+other+"; "+last+"; "+other+"; "+last+"; end", at(0, 0, 1), api.ErrSyntax)
			rejects(t, "func m; block b; "+other+"; "+last+"; block c; "+last+"; "+last+"; end", at(0, 1, 0), api.ErrSyntax)
		}
	}
	rejects(t, "func m; block b"+strings.Repeat("; x = y", 32)+"; end", at(0, 0, 31), api.ErrSyntax)
	accepts(t, "func m; block b"+strings.Repeat("; x = y", 31)+"; return; end")
}

// P6.1: the targets of goto and branch are blocks of the same function, those of calls are functions of the program.
func TestTargets(t *testing.T) {
	const rest = "; end; func f; block d; return; end"
	for _, line := range []string{"goto d", "goto f", "goto m", "goto x", "goto B", "branch x b d", "branch x d b", "branch x f b", "branch x b m", "branch b x x"} {
		rejects(t, "func m; block b; "+line+rest, at(0, 0, 0), api.ErrName)
		rejects(t, "func m; block b; x = y; "+line+"; block c; return"+rest, at(0, 0, 1), api.ErrName)
		rejects(t, "func m; block b; return; block c; "+line+rest, at(0, 1, 0), api.ErrName)
	}
	for _, line := range []string{"goto b", "goto c", "branch d b c", "branch m c b", "branch x c c"} {
		accepts(t, "func m; block b; "+line+"; block c; return"+rest)
		accepts(t, "func m; block c; return; block b; "+line+rest)
	}
	for _, line := range []string{"call b", "call d", "call x", "call F", "call ff"} {
		rejects(t, "func m; block b; "+line+"; return"+rest, at(0, 0, 0), api.ErrName)
		rejects(t, "func m; block b; x = y; "+line+"; return"+rest, at(0, 0, 1), api.ErrName)
		rejects(t, "func m; block b; return; end; func f; block d; "+line+"; return; end", at(1, 0, 0), api.ErrName)
	}
	for _, line := range []string{"call m", "call f"} {
		accepts(t, "func m; block b; "+line+"; return"+rest)
		accepts(t, "func m; block b; return; end; func f; block d; "+line+"; return; end")
	}
}

// P6.1: of the errors of statements, that of the first statement counts, and of one statement ErrSyntax comes before ErrName.
func TestFirstStatement(t *testing.T) {
	rejects(t, "func m; block b; call g; goto c; end", at(0, 0, 0), api.ErrName)
	rejects(t, "func m; block b; call g; end", at(0, 0, 0), api.ErrSyntax)
	rejects(t, "func m; block b; goto c; return; end", at(0, 0, 0), api.ErrSyntax)
	rejects(t, "func m; block b; branch x c d; x = y; end", at(0, 0, 0), api.ErrSyntax)
	rejects(t, "func m; block b; goto c; block d; x = y; end", at(0, 0, 0), api.ErrName)
	rejects(t, "func m; block b; x = y; block d; goto c; end", at(0, 0, 0), api.ErrSyntax)
	rejects(t, "func m; block b; goto c; end; func f; block b; return; return; end", at(0, 0, 0), api.ErrName)
	rejects(t, "func m; block b; return; end; func f; block b; return; block c; call g; call h; return; end", at(1, 1, 0), api.ErrName)
}

// notWellFormed returns programs that are not well formed, each with one thing that the grammar does not allow.
func notWellFormed() []api.Program {
	list := []api.Program{
		{}, {Funcs: []api.Func{}}, {Funcs: []api.Func{{}}}, {Funcs: make([]api.Func, 8)},
		program(function("m")), program(function("m", block("b"))), program(function("m", block("b", api.Stmt{}))),
		program(function("", block("b", finish))), program(function("end", block("b", finish))), program(function("m", block("", finish))), program(function("m", block("1", finish))),
		program(function("m", slices.Repeat([]api.Block{block("b", finish)}, 17)...)),
		program(slices.Repeat([]api.Func{function("m", block("b", finish))}, 9)...),
		program(function("m", block("b", slices.Repeat([]api.Stmt{finish}, 33)...))),
		program(function("m", block("b", finish)), function("f")),
		program(function("m", block("b", finish), block("c"))),
	}
	for _, s := range []api.Stmt{
		{Op: -1}, {Op: 10}, {Op: math.MaxInt}, {Op: math.MinInt}, assign(""), assign("x", ""), assign("x", "use"), assign("x", "a", "b", "c", "d", "e"), use(), use("_"),
		{Op: api.OpAssign, Def: "x", Targets: []string{"b"}}, {Op: api.OpUse, Def: "x", Uses: []string{"x"}},
		{Op: api.OpCall}, call(""), {Op: api.OpCall, Targets: []string{"m", "m"}}, {Op: api.OpCall, Def: "x", Targets: []string{"m"}},
		{Op: api.OpSource}, {Op: api.OpSource, Def: "x", Uses: []string{"x"}}, {Op: api.OpSink}, {Op: api.OpSink, Uses: []string{"x", "x"}}, {Op: api.OpSanitize},
		{Op: api.OpGoto}, jump("B b"), {Op: api.OpBranch, Uses: []string{"x"}}, branch("x", "b", ""), branch("", "b", "b"),
		{Op: api.OpReturn, Def: "x"}, {Op: api.OpReturn, Uses: []string{"x"}}, {Op: api.OpReturn, Targets: []string{"b"}},
	} {
		list = append(list, program(function("m", block("b", s, finish))), program(function("m", block("b", finish)), function("m", block("b", assign("y", "z")), block("b", s))))
	}
	return list
}

// P6.1, P6.2, R1, R5: programs that are not well formed are ErrInvalid, have no variables and no sizes.
func TestNotWellFormed(t *testing.T) {
	for i, p := range notWellFormed() {
		before := copied(p)
		check(t, p, api.Node{}, api.ErrInvalid)
		if variables := validate.Variables(p); len(variables) > 0 {
			t.Errorf("the variables of program %d are %v", i, variables)
		}
		if nodes, edges := validate.Sizes(p); nodes != 0 || edges != 0 {
			t.Errorf("the sizes of program %d are %d, %d", i, nodes, edges)
		}
		if !syntax.Equal(p, before) {
			t.Errorf("the program %d was modified", i)
		}
	}
}

// P6.1: a program that is not well formed is ErrInvalid whatever its other errors are.
func TestInvalidComesFirst(t *testing.T) {
	wrong := api.Stmt{Op: api.OpReturn, Def: "x"}
	check(t, program(function("m", block("b", finish)), function("m", block("b", wrong))), api.Node{}, api.ErrInvalid)
	check(t, program(function("m", block("b", finish), block("b", wrong))), api.Node{}, api.ErrInvalid)
	check(t, program(function("m", block("b", finish, wrong))), api.Node{}, api.ErrInvalid)
	check(t, program(function("m", block("b", jump("c")), block("d", wrong))), api.Node{}, api.ErrInvalid)
	large := filled(4096, assign("x"))
	large.Funcs[7].Blocks[15].Stmts[31] = wrong
	check(t, large, api.Node{}, api.ErrInvalid)
}

// filled returns a program with a number of statements in as few functions and blocks as possible: each block ends with a
// goto to itself, and its other statements are s.
func filled(n int, s api.Stmt) api.Program {
	p := api.Program{}
	for i := 0; i < n; i++ {
		if i%512 == 0 {
			p.Funcs = append(p.Funcs, function("f"+strconv.Itoa(i/512)))
		}
		f := &p.Funcs[i/512]
		if i%32 == 0 {
			f.Blocks = append(f.Blocks, block("b"+strconv.Itoa(len(f.Blocks))))
		}
		b := &f.Blocks[len(f.Blocks)-1]
		if i%32 == 31 || i == n-1 {
			b.Stmts = append(b.Stmts, jump(b.Name))
		} else {
			b.Stmts = append(b.Stmts, s)
		}
	}
	return p
}

// P6.1: a program has MaxNodes nodes at most.
func TestMaxNodes(t *testing.T) {
	for _, s := range []api.Stmt{assign("x", "y"), use("x"), {Op: api.OpSource, Def: "x"}} {
		check(t, filled(253, s), api.Node{}, api.OK)
		check(t, filled(254, s), api.Node{}, api.OK)
		check(t, filled(255, s), api.Node{}, api.ErrFull)
		check(t, filled(4096, s), api.Node{}, api.ErrFull)
	}
	two := filled(252, assign("x"))
	two.Funcs = append(two.Funcs, function("g", block("b", finish)))
	check(t, two, api.Node{}, api.ErrFull)
	two = filled(251, assign("x"))
	two.Funcs = append(two.Funcs, function("g", block("b", finish)))
	check(t, two, api.Node{}, api.OK)
	for n, want := range map[int]api.Errno{128: api.OK, 129: api.OK, 130: api.ErrFull, 131: api.ErrFull} {
		calls := filled(n, call("f0"))
		nodes, _ := validate.Sizes(calls)
		if nodes != 2+n+n-(n+31)/32 {
			t.Errorf("a program of %d statements with calls has %d nodes", n, nodes)
		}
		check(t, calls, api.Node{}, want)
	}
}

// P6.1: no program within the other limits has more than MaxEdges edges; those with the most have a branch in each block,
// and calls.
func TestManyEdges(t *testing.T) {
	p := program()
	for f := range 8 {
		p.Funcs = append(p.Funcs, function("f"+strconv.Itoa(f)))
		for b := range 16 {
			name := "b" + strconv.Itoa(b)
			p.Funcs[f].Blocks = append(p.Funcs[f].Blocks, block(name, branch("x", name, "b0")))
		}
	}
	for calls := 0; calls <= 57; calls++ {
		if nodes, edges := validate.Sizes(p); nodes != 144+2*calls || edges != 264+3*calls {
			t.Errorf("the sizes of 128 branches and %d calls in 8 functions are %d, %d", calls, nodes, edges)
		}
		if calls <= 56 {
			check(t, p, api.Node{}, api.OK)
		} else {
			check(t, p, api.Node{}, api.ErrFull)
		}
		b := &p.Funcs[calls%8].Blocks[calls/8]
		b.Stmts = append([]api.Stmt{call("f7")}, b.Stmts...)
	}
	if nodes, edges := validate.Sizes(filled(4096, call("f0"))); nodes != 16+4096+4096-128 || edges != 8+3*(4096-128)+128 {
		t.Errorf("the sizes of the program with the most calls are %d, %d", nodes, edges)
	}
}

// variables returns a program with a number of different variables.
func variables(n int) api.Program {
	p := program(function("m", block("b")))
	for i := 0; i < n; i += 4 {
		s := use()
		for j := i; j < min(n, i+4); j++ {
			s.Uses = append(s.Uses, "x"+strconv.Itoa(j))
		}
		p.Funcs[0].Blocks[0].Stmts = append(p.Funcs[0].Blocks[0].Stmts, s)
	}
	p.Funcs[0].Blocks[0].Stmts = append(p.Funcs[0].Blocks[0].Stmts, finish)
	return p
}

// P6.1: a program has MaxVars variables at most.
func TestMaxVars(t *testing.T) {
	for _, n := range []int{0, 1, 2, 63, 64} {
		check(t, variables(n), api.Node{}, api.OK)
	}
	for _, n := range []int{65, 66, 100} {
		check(t, variables(n), api.Node{}, api.ErrFull)
	}
	full := variables(64)
	b := &full.Funcs[0].Blocks[0]
	b.Stmts = append([]api.Stmt{assign("x0", "x63"), {Op: api.OpSink, Uses: []string{"x7"}}}, b.Stmts...)
	check(t, full, api.Node{}, api.OK)
	for _, s := range []api.Stmt{assign("y"), assign("x1", "y"), use("x1", "x2", "x3", "y"), {Op: api.OpSource, Def: "y"}, {Op: api.OpSink, Uses: []string{"y"}}, {Op: api.OpSanitize, Def: "y"}} {
		more := copied(full)
		more.Funcs[0].Blocks[0].Stmts[0] = s
		check(t, more, api.Node{}, api.ErrFull)
	}
	b.Stmts[len(b.Stmts)-1] = branch("x5", "b", "b")
	check(t, full, api.Node{}, api.OK)
	b.Stmts[len(b.Stmts)-1] = branch("b", "b", "b")
	check(t, full, api.Node{}, api.ErrFull)
	b.Stmts[len(b.Stmts)-1] = jump("b")
	b.Stmts[0] = call("m")
	check(t, full, api.Node{}, api.OK)
}

// P6.1: ErrFull comes after all other errors.
func TestFullComesLast(t *testing.T) {
	for _, large := range []api.Program{variables(65), filled(255, assign("x")), filled(4096, call("f3"))} {
		check(t, large, api.Node{}, api.ErrFull)
		last := len(large.Funcs) - 1
		end := func(p api.Program) *api.Block {
			blocks := p.Funcs[last].Blocks
			return &blocks[len(blocks)-1]
		}
		place := at(last, len(large.Funcs[last].Blocks)-1, len(end(large).Stmts)-1)
		p := copied(large)
		end(p).Stmts[place.Stmt] = jump("other")
		check(t, p, place, api.ErrName)
		p = copied(large)
		end(p).Stmts[place.Stmt] = assign("y")
		check(t, p, place, api.ErrSyntax)
		p = copied(large)
		p.Funcs[0].Blocks[0].Stmts[0] = call("other")
		check(t, p, at(0, 0, 0), api.ErrName)
		if len(p.Funcs) > 1 {
			p.Funcs[last].Name = p.Funcs[0].Name
			check(t, p, entry(last), api.ErrDuplicate)
		}
		if place.Block > 0 {
			p = copied(large)
			end(p).Name = p.Funcs[last].Blocks[0].Name
			check(t, p, at(last, place.Block, -1), api.ErrDuplicate)
		}
	}
}

// P6.2: the variables in the order of their first occurrence, Def before Uses. Names of functions and blocks are none.
func TestVariables(t *testing.T) {
	for text, want := range map[string]string{
		"func m; block b; return; end":                                                                   "",
		"func m; block b; call f; goto c; end":                                                           "",
		"func m; block b; x = y z; return; end":                                                          "x y z",
		"func m; block b; x =; return; end":                                                              "x",
		"func m; block b; z = y x; y = w z; end":                                                         "z y x w",
		"func m; block b; x = x; x = x x; end":                                                           "x",
		"func m; block b; x = b a b a; use d c; end":                                                     "x b a d c",
		"func m; block b; use b a; b = c; end":                                                           "b a c",
		"func m; block b; sink x; sanitize y; source z; sink y; end":                                     "x y z",
		"func m; block b; branch z b c; block c; branch y b c; end":                                      "z y",
		"func m; block b; source q; end; func f; block b; use p q; block c; return; block d; o = n; end": "q p o n",
		"func x; block y; call z; goto v; end":                                                           "",
		"func x; block y; call z; x = y X; branch w y y; end":                                            "x y X w",
	} {
		p := parse(t, text)
		if got := strings.Join(validate.Variables(p), " "); got != want {
			t.Errorf("the variables of %q are %q, want %q", text, got, want)
		}
	}
	if got := validate.Variables(variables(100)); len(got) != 100 || got[0] != "x0" || got[99] != "x99" {
		t.Errorf("100 variables are %v", got)
	}
}

// P6.2: Defines depends on nothing but the operation.
func TestDefines(t *testing.T) {
	for _, op := range []int{math.MinInt, -1, 0, 1, 2, 3, 4, 5, 6, 7, 8, 9, 10, 11, math.MaxInt} {
		want := op == 1 || op == 4 || op == 6
		for _, s := range []api.Stmt{{}, assign("x", "y"), use("x"), call("f"), branch("x", "b", "c"), {Def: "", Uses: []string{""}, Targets: make([]string, 9)}} {
			s.Op = op
			if validate.Defines(s) != want {
				t.Errorf("Defines(%v) is %v", s, !want)
			}
		}
	}
}

// P6.2: the sizes of single statements and of programs, whether Check accepts them or not.
func TestSizes(t *testing.T) {
	for _, c := range []struct {
		text         string
		nodes, edges int
	}{
		{"func m; block b; x = y; end", 3, 2},
		{"func m; block b; x =; end", 3, 2},
		{"func m; block b; use x y; end", 3, 2},
		{"func m; block b; call f; end", 4, 4},
		{"func m; block b; source x; end", 3, 2},
		{"func m; block b; sink x; end", 3, 2},
		{"func m; block b; sanitize x; end", 3, 2},
		{"func m; block b; goto c; end", 3, 2},
		{"func m; block b; branch x b c; end", 3, 3},
		{"func m; block b; branch x b b; end", 3, 3},
		{"func m; block b; return; end", 3, 2},
		{"func m; block b; return; block b; return; end", 4, 3},
		{"func m; block b; return; end; func m; block b; return; end", 6, 4},
		{"func m; block b; x = y; call f; use x; branch x b c; block c; goto b; end; func f; block b; call f; call m; return; end", 15, 17},
	} {
		if nodes, edges := validate.Sizes(parse(t, c.text)); nodes != c.nodes || edges != c.edges {
			t.Errorf("the sizes of %q are %d, %d, want %d, %d", c.text, nodes, edges, c.nodes, c.edges)
		}
	}
}

// P6.1, P6.2: all programs of one function with up to two blocks, and of two functions with one block each, of up to two
// statements, compared with the references.
func TestSmallPrograms(t *testing.T) {
	stmts := []api.Stmt{assign("y", "x"), call("m"), call("f"), jump("b"), jump("c"), branch("x", "b", "c"), finish}
	var blocks []api.Block
	for _, name := range []string{"b", "c"} {
		for _, s := range stmts {
			blocks = append(blocks, block(name, s))
			for _, u := range stmts {
				blocks = append(blocks, block(name, s, u))
			}
		}
	}
	for _, b := range blocks {
		compare(t, program(function("m", b)))
		for _, c := range blocks {
			compare(t, program(function("m", b, c)))
			compare(t, program(function("m", b), function("f", c)))
			compare(t, program(function("m", b), function("m", c)))
		}
	}
}

// generate returns a well-formed program with few names, and about as many mistakes in 1000 names as it is told to make.
func generate(n *numbers, mistakes int) api.Program {
	names := strings.Fields("a b c d e f g h i j k l m n o p")
	p := api.Program{}
	funcs, variables, most := 1+n.below(8), 1+n.below(16), pick(n, []int{1, 6, 31})
	for f := range funcs {
		blocks := 1 + n.below(1+n.below(16))
		target := func(limit int) string {
			if n.below(1000) < mistakes {
				limit = len(names)
			}
			return names[n.below(limit)]
		}
		p.Funcs = append(p.Funcs, function(names[f]))
		for b := range blocks {
			list := []api.Stmt{}
			for range n.below(1 + n.below(most)) {
				x, y := pick(n, names[:variables]), pick(n, names[:variables])
				list = append(list, pick(n, []api.Stmt{assign(x), assign(x, y), use(x, y), call(target(funcs)), {Op: api.OpSource, Def: x}, {Op: api.OpSink, Uses: []string{x}}, {Op: api.OpSanitize, Def: x}}))
			}
			list = append(list, pick(n, []api.Stmt{finish, jump(target(blocks)), branch(pick(n, names), target(blocks), target(blocks))}))
			p.Funcs[f].Blocks = append(p.Funcs[f].Blocks, block(names[b], list...))
		}
	}
	for n.below(1000) < mistakes*5 {
		spoil(n, p, names)
	}
	return p
}

// spoil changes one name or the place of one statement of a program.
func spoil(n *numbers, p api.Program, names []string) {
	f := &p.Funcs[n.below(len(p.Funcs))]
	b := &f.Blocks[n.below(len(f.Blocks))]
	switch n.below(4) {
	case 0:
		f.Name = pick(n, names)
	case 1:
		b.Name = pick(n, names)
	case 2:
		i := n.below(len(b.Stmts))
		b.Stmts[i], b.Stmts[0] = b.Stmts[0], b.Stmts[i]
	default:
		b.Stmts[n.below(len(b.Stmts))] = pick(n, []api.Stmt{finish, jump(pick(n, names)), call(pick(n, names)), assign(pick(n, names))})
	}
}

// P6.1, P6.2: larger programs, compared with the references.
func TestGeneratedPrograms(t *testing.T) {
	n := &numbers{1}
	count := map[api.Errno]int{}
	for i := range 20000 {
		p := generate(n, []int{0, 5, 50, 150}[i%4])
		compare(t, p)
		_, err := validate.Check(p)
		count[err]++
	}
	for _, err := range []api.Errno{api.OK, api.ErrDuplicate, api.ErrSyntax, api.ErrName, api.ErrFull} {
		if count[err] < 300 {
			t.Errorf("only %d programs are %v", count[err], err)
		}
	}
}

// renamed returns a program with other names: each kind of names is renamed in another way.
func renamed(p api.Program, f, b, x func(name string) string) api.Program {
	q := copied(p)
	for i := range q.Funcs {
		q.Funcs[i].Name = f(q.Funcs[i].Name)
		for j := range q.Funcs[i].Blocks {
			block := &q.Funcs[i].Blocks[j]
			block.Name = b(block.Name)
			for k := range block.Stmts {
				s := &block.Stmts[k]
				if s.Def != "" {
					s.Def = x(s.Def)
				}
				for l := range s.Uses {
					s.Uses[l] = x(s.Uses[l])
				}
				for l := range s.Targets {
					if s.Op == api.OpCall {
						s.Targets[l] = f(s.Targets[l])
					} else {
						s.Targets[l] = b(s.Targets[l])
					}
				}
			}
		}
	}
	return q
}

// P6.1: the consequences of the chapter: consistent renaming changes nothing, and what is accepted is well formed.
func TestConsequences(t *testing.T) {
	n := &numbers{2}
	prefix := func(prefix string) func(name string) string {
		return func(name string) string { return prefix + name }
	}
	mirror := func(name string) string { return string(rune('a' + 'p' - rune(name[0]))) }
	for i := range 2000 {
		p := generate(n, []int{0, 20, 100}[i%3])
		node, err := validate.Check(p)
		if err == api.OK && !syntax.Valid(p) {
			t.Errorf("the program %v is accepted but not well formed", p)
		}
		check(t, renamed(p, prefix("f_"), prefix("b_"), prefix("x_")), node, err)
		check(t, renamed(p, prefix("same_"), prefix("same_"), prefix("same_")), node, err)
		check(t, renamed(p, mirror, strings.ToUpper, mirror), node, err)
		check(t, renamed(p, strings.ToUpper, mirror, prefix("abcdefghijklmno")), node, err)
	}
}

// R2: the variables share no memory with the program or with another result.
func TestMemory(t *testing.T) {
	for _, text := range []string{"func m; block b; use x y; return; end", "func m; block b; x = y; sink x; return; end"} {
		p := parse(t, text)
		before := copied(p)
		first := validate.Variables(p)
		for i := range first {
			first[i] = "z"
		}
		first = append(first, "z")
		if !syntax.Equal(p, before) {
			t.Errorf("the variables of %q share memory with the program", text)
		}
		if got := validate.Variables(p); strings.Join(got, " ") != "x y" {
			t.Errorf("after a change, the variables of %q are %v", text, got)
		}
	}
}

// R3: a nil list and an empty one are equal.
func TestEmptyLists(t *testing.T) {
	p := program(function("m", block("b",
		api.Stmt{Op: api.OpAssign, Def: "x", Uses: []string{}, Targets: []string{}},
		api.Stmt{Op: api.OpReturn, Uses: []string{}, Targets: []string{}})))
	check(t, p, api.Node{}, api.OK)
	if got := validate.Variables(p); !slices.Equal(got, []string{"x"}) {
		t.Errorf("the variables are %v", got)
	}
}
