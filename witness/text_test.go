package witness_test

import (
	"math"
	"slices"
	"strconv"
	"strings"
	"testing"

	"flowquery/api"
	"flowquery/facts"
	"flowquery/syntax"
	"flowquery/validate"
	"flowquery/witness"
)

// noKinds are some numbers that are no kinds of analyses.
var noKinds = []int{0, 5, -1, 6, 257, math.MinInt, math.MaxInt}

// occurring returns the variables in the words of a statement, and the one that it defines, or nothing.
func occurring(words []string) (names []string, defined string) {
	switch words[0] {
	case "use", "sink":
		return words[1:], ""
	case "source", "sanitize":
		return words[1:], words[1]
	case "branch":
		return words[1:2], ""
	case "call", "goto", "return":
		return nil, ""
	}
	return slices.Concat(words[:1], words[2:]), words[0]
}

// reference returns the labels of the nodes of a valid program and the texts of the facts of an analysis, from the lines of
// the program's text.
func reference(p api.Program, kind int) (labels, texts []string) {
	var variables []string
	s, f, b := 0, "", ""
	for _, line := range strings.Split(strings.TrimSuffix(syntax.Print(p), "\n"), "\n") {
		words := strings.Fields(line)
		switch words[0] {
		case "func":
			f = words[1]
			labels = append(labels, f+".entry")
		case "block":
			b, s = words[1], 0
		case "end":
			labels = append(labels, f+".exit")
		default:
			label := f + "." + b + "." + strconv.Itoa(s)
			names, defined := occurring(words)
			variables = append(variables, names...)
			if defined != "" {
				texts = append(texts, defined+"@"+label)
			}
			labels = append(labels, label)
			if words[0] == "call" {
				labels = append(labels, label+"+")
			}
			s++
		}
	}
	if kind == api.KindReach {
		return labels, texts
	}
	var different []string
	for _, name := range variables {
		if !slices.Contains(different, name) {
			different = append(different, name)
		}
	}
	return labels, different
}

// checkText compares the text of hops of an analysis of a valid program with the reference.
func checkText(t *testing.T, p api.Program, kind int, list []api.Hop) {
	t.Helper()
	labels, texts := reference(p, kind)
	var want strings.Builder
	for _, h := range list {
		want.WriteString(labels[h.Node] + " " + texts[h.Bit] + "\n")
	}
	before := slices.Clone(list)
	if got, err := witness.Text(p, kind, list); err != api.OK || got != want.String() {
		t.Errorf("Text of %q, the kind %d and %v is %q, %v, want %q", syntax.Inline(p), kind, list, got, err, want.String())
	}
	if !slices.Equal(list, before) {
		t.Errorf("Text modified the hops %v", before)
	}
}

// checkLabels checks the texts of all nodes and of all facts of an analysis of a valid program, and that there are no more.
func checkLabels(t *testing.T, p api.Program, kind int) {
	t.Helper()
	labels, texts := reference(p, kind)
	checkText(t, p, kind, nil)
	checkText(t, p, kind, []api.Hop{})
	var list []api.Hop
	if len(texts) > 0 {
		for i := range max(len(labels), len(texts)) {
			list = append(list, api.Hop{Node: i % len(labels), Bit: len(texts) - 1 - i%len(texts)})
		}
		checkText(t, p, kind, list)
	}
	for _, h := range []api.Hop{{Node: len(labels)}, {Node: -1}, {Bit: len(texts)}, {Bit: -1}} {
		checkTextError(t, p, kind, append(list, h), api.ErrNode)
	}
}

// checkTextError checks that the text of hops is an error.
func checkTextError(t *testing.T, p api.Program, kind int, list []api.Hop, want api.Errno) {
	t.Helper()
	if got, err := witness.Text(p, kind, list); got != "" || err != want {
		t.Errorf("Text of %q, the kind %d and %v is %q, %v, want %v", syntax.Inline(p), kind, list, got, err, want)
	}
}

// P16.4: the lines of hops of each analysis, also of hops that are no witness.
func TestText(t *testing.T) {
	p := parse(t, "func main; block b_1; use last; x = last y; call F; goto c; block c; source y; sanitize x; return; end; func F; block c; x =; return; end")
	for _, c := range []struct {
		kind int
		list []api.Hop
		want string
	}{
		{api.KindReach, nil, ""},
		{api.KindReach, hops(0, 0), "main.entry x@main.b_1.1\n"},
		{api.KindReach, hops(3, 0, 10, 0, 11, 0), "main.b_1.2 x@main.b_1.1\nF.entry x@main.b_1.1\nF.c.0 x@main.b_1.1\n"},
		{api.KindReach, hops(12, 3, 13, 3, 4, 3, 5, 3), "F.c.1 x@F.c.0\nF.exit x@F.c.0\nmain.b_1.2+ x@F.c.0\nmain.b_1.3 x@F.c.0\n"},
		{api.KindReach, hops(9, 1, 9, 1, 9, 2, 9, 1), "main.exit y@main.c.0\nmain.exit y@main.c.0\nmain.exit x@main.c.1\nmain.exit y@main.c.0\n"},
		{api.KindLive, hops(2, 0, 1, 0), "main.b_1.1 last\nmain.b_1.0 last\n"},
		{api.KindTaint, hops(8, 2, 7, 1), "main.c.2 y\nmain.c.1 x\n"},
		{api.KindUninit, hops(0, 2, 0, 1, 0, 0), "main.entry y\nmain.entry x\nmain.entry last\n"},
	} {
		if got, err := witness.Text(p, c.kind, c.list); err != api.OK || got != c.want {
			t.Errorf("Text of the kind %d and %v is %q, %v, want %q", c.kind, c.list, got, err, c.want)
		}
		checkText(t, p, c.kind, c.list)
	}
	for _, kind := range kinds {
		checkLabels(t, p, kind)
		// More facts than nodes.
		checkLabels(t, parse(t, "func m; block b; use a b c d; e = f g h i; return; end"), kind)
	}
}

// P16.1, P16.4: the text of the witness of the chapter's example, and of one that goes through a function.
func TestTextOfWitness(t *testing.T) {
	for _, c := range []struct {
		text         string
		kind, n, bit int
		want         string
	}{
		{"func m; block b; x = y; use x; return; end", api.KindReach, 3, 0, "m.b.1 x@m.b.0\nm.b.2 x@m.b.0\n"},
		{"func m; block b; source x; y = x; call f; sink z; return; end; func f; block b; z = y; return; end", api.KindTaint, 5, 2, "m.b.1 x\nm.b.2 y\nf.entry y\nf.b.0 y\nf.b.1 z\nf.exit z\nm.b.2+ z\nm.b.3 z\n"},
		{"func m; block b; x = y; use x; return; end", api.KindLive, 0, 1, "m.entry y\n"},
		{"func m; block b; goto c; block c; use x; return; end", api.KindUninit, 2, 0, "m.entry x\nm.b.0 x\nm.c.0 x\n"},
	} {
		p := parse(t, c.text)
		s := systemOf(t, p, c.kind)
		list, found, err := witness.Find(s, c.n, c.bit)
		text, errText := witness.Text(p, c.kind, list)
		if err != api.OK || !found || errText != api.OK || text != c.want {
			t.Errorf("the witness for %d in %d of the kind %d of %q is %v, %v, %v, with the text %q, %v, want %q", c.bit, c.n, c.kind, c.text, list, found, err, text, errText, c.want)
		}
	}
}

// P16.4, R4, R5: hops that have no node or no fact, at each place.
func TestTextErrors(t *testing.T) {
	p := parse(t, "func m; block b; use z; x = y; sanitize x; return; end")
	fine := api.Hop{Node: 5, Bit: 1}
	for _, kind := range kinds {
		labels, texts := reference(p, kind)
		for _, number := range []int{-1, -2, math.MinInt, math.MaxInt, 256, 1 << 32, len(labels), len(labels) + 1} {
			bad := api.Hop{Node: number, Bit: 1}
			checkTextError(t, p, kind, []api.Hop{bad}, api.ErrNode)
			checkTextError(t, p, kind, []api.Hop{fine, fine, bad}, api.ErrNode)
			checkTextError(t, p, kind, []api.Hop{bad, fine, bad, fine}, api.ErrNode)
		}
		for _, number := range []int{-1, -2, math.MinInt, math.MaxInt, 64, 1 << 32, len(texts), len(texts) + 1} {
			bad := api.Hop{Node: 5, Bit: number}
			checkTextError(t, p, kind, []api.Hop{bad}, api.ErrNode)
			checkTextError(t, p, kind, []api.Hop{fine, bad, fine}, api.ErrNode)
			checkTextError(t, p, kind, []api.Hop{fine, fine, bad}, api.ErrNode)
		}
	}
	none := parse(t, "func m; block b; return; end")
	for _, kind := range kinds {
		checkTextError(t, none, kind, []api.Hop{{}}, api.ErrNode)
		checkText(t, none, kind, nil)
	}
}

// P16.4, R1, R4, R5: the errors of facts.List come first, also without hops.
func TestTextOfNoFacts(t *testing.T) {
	lists := [][]api.Hop{nil, {}, {{}}, {{Node: -1, Bit: math.MaxInt}}}
	p := parse(t, "func m; block b; x = y; return; end")
	for _, kind := range noKinds {
		for _, list := range lists {
			checkTextError(t, p, kind, list, api.ErrRange)
		}
	}
	for text, want := range map[string]api.Errno{
		"func m; block b; x = y; return; end; func m; block b; return; end": api.ErrDuplicate,
		"func m; block b; x = y; end":                                       api.ErrSyntax,
		"func m; block b; x = y; goto c; end":                               api.ErrName,
		"func m; block b; x = y; call x; return; end":                       api.ErrName,
	} {
		for _, kind := range slices.Concat(kinds, noKinds) {
			for _, list := range lists {
				checkTextError(t, parse(t, text), kind, list, want)
			}
		}
	}
	finish := []api.Stmt{{Op: api.OpReturn}}
	for _, p := range []api.Program{{}, {Funcs: make([]api.Func, 2)}, {Funcs: []api.Func{{Name: "m", Blocks: []api.Block{{Name: "end", Stmts: finish}}}}}, {Funcs: []api.Func{{Name: "m", Blocks: []api.Block{{Name: "b", Stmts: make([]api.Stmt, 3)}}}}}} {
		for _, kind := range slices.Concat(kinds, noKinds) {
			for _, list := range lists {
				checkTextError(t, p, kind, list, api.ErrInvalid)
			}
		}
	}
}

// P16.4, R2: programs with the most nodes, facts and variables, each with a list of many hops; the program stays as it is.
func TestTextLimits(t *testing.T) {
	long := func(lines []string) string {
		text := "func m"
		for part := range slices.Chunk(lines, 31) {
			text += "; block b" + strconv.Itoa(strings.Count(text, "block")) + "; " + strings.Join(part, "; ") + "; return"
		}
		return text + "; end"
	}
	var variables []string
	for i := range api.MaxVars {
		variables = append(variables, "v"+strconv.Itoa(i)+" =")
	}
	for _, text := range []string{long(slices.Repeat([]string{"x ="}, 246)), long(variables), long(slices.Repeat([]string{"call m"}, 123))} {
		p := parse(t, text)
		if _, err := validate.Check(p); err != api.OK {
			t.Fatalf("Check of %q is %v", text, err)
		}
		for _, kind := range kinds {
			checkLabels(t, p, kind)
			labels, _ := reference(p, kind)
			list, _ := facts.List(p, kind)
			var many []api.Hop
			for i := range 1 << 16 {
				if len(list) > 0 {
					many = append(many, api.Hop{Node: i % len(labels), Bit: i / len(labels) % len(list)})
				}
			}
			checkText(t, p, kind, many)
		}
		if !syntax.Equal(p, parse(t, text)) {
			t.Errorf("the program %q was modified", text)
		}
	}
	checkTextError(t, parse(t, long(slices.Repeat([]string{"x ="}, 247))), api.KindReach, nil, api.ErrFull)
}
