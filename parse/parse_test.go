package parse_test

import (
	"math"
	"math/rand/v2"
	"slices"
	"strings"
	"sync"
	"testing"

	"intarsia/api"
	"intarsia/lex"
	"intarsia/parse"
	"intarsia/tree"
)

// The grammar's own reading of a list of tokens: every way to divide it is tried.

type result struct {
	line api.Line
	e    api.Errno
}

// dyadic and monadic have the function of each glyph, and whether the grammar gives it an axis.
var (
	dyadic = map[string]struct {
		fn   int
		axis bool
	}{"↑": {1, false}, "↓": {2, false}, "⌽": {3, true}, "⍉": {4, false}, "⍴": {5, false}, ",": {6, true}}
	monadic = map[string]struct {
		fn   int
		axis bool
	}{"⌽": {3, true}, "⍉": {4, false}, ",": {6, false}}
)

// axisOf returns the axis that tokens behind a glyph are, all of them.
func axisOf(l []lex.Token, permitted bool) (int, bool) {
	if len(l) == 0 {
		return -1, true
	}
	if !permitted || len(l) != 3 || l[0].Text != "[" || l[1].Kind != lex.Number || l[2].Text != "]" {
		return 0, false
	}
	return int(l[1].N), 0 <= l[1].N && l[1].N <= 15
}

// exprs returns the trees of all derivations of tokens as an expr.
func exprs(l []lex.Token) []api.Tree {
	found := operands(l)
	for _, k := range []int{1, 4} {
		if k >= len(l) {
			continue
		}
		if f, ok := monadic[l[0].Text]; ok {
			if axis, ok := axisOf(l[1:k], f.axis); ok {
				for _, right := range exprs(l[k:]) {
					found = append(found, api.Tree{Kind: api.Monad, Fn: f.fn, Axis: axis, Kids: []api.Tree{right}})
				}
			}
		}
	}
	for at := 1; at+1 < len(l); at++ {
		f, ok := dyadic[l[at].Text]
		if !ok {
			continue
		}
		for _, left := range operands(l[:at]) {
			if f.fn != api.Ravel && left.Kind != api.Literal && left.Kind != api.Name {
				continue
			}
			for _, k := range []int{1, 4} {
				if at+k >= len(l) {
					continue
				}
				axis, ok := axisOf(l[at+1:at+k], f.axis)
				if !ok {
					continue
				}
				for _, right := range exprs(l[at+k:]) {
					found = append(found, api.Tree{Kind: api.Dyad, Fn: f.fn, Axis: axis, Kids: []api.Tree{left, right}})
				}
			}
		}
	}
	return found
}

// operands returns the trees of all derivations of tokens as an operand.
func operands(l []lex.Token) []api.Tree {
	if len(l) == 0 {
		return nil
	}
	if nums, ok := numbers(l); ok {
		return []api.Tree{{Kind: api.Literal, Axis: -1, Nums: nums}}
	}
	if len(l) == 1 && l[0].Text == "⍬" {
		return []api.Tree{{Kind: api.Literal, Axis: -1}}
	}
	if len(l) == 1 && l[0].Kind == lex.Word {
		return []api.Tree{{Kind: api.Name, Axis: -1, Name: l[0].Text}}
	}
	if l[0].Text == "(" && l[len(l)-1].Text == ")" && len(l) > 2 {
		return exprs(l[1 : len(l)-1])
	}
	return nil
}

func numbers(l []lex.Token) (nums []int64, ok bool) {
	for _, t := range l {
		if t.Kind != lex.Number {
			return nil, false
		}
		nums = append(nums, t.N)
	}
	return nums, true
}

// ends is what tokens that have the given derivations are.
func ends(t *testing.T, name string, found []api.Tree) result {
	switch {
	case len(found) > 1:
		t.Fatalf("%d derivations, such as %v", len(found), found[0])
	case len(found) == 0:
		return result{e: api.ErrSyntax}
	case tree.Depth(found[0]) > 100:
		return result{e: api.ErrLimit}
	}
	return result{line: api.Line{Name: name, Expr: found[0]}}
}

// wanted returns what Expr and Line have to find in tokens.
func wanted(t *testing.T, l []lex.Token) (expr, line result) {
	expr = ends(t, "", exprs(l))
	line = expr
	if len(l) > 2 && l[0].Kind == lex.Word && l[1].Text == "←" {
		line = ends(t, l[0].Text, exprs(l[2:]))
	}
	return expr, line
}

func sameLine(a, b api.Line) bool { return a.Name == b.Name && tree.Same(a.Expr, b.Expr) }

// check compares Expr and Line of a text with what they have to find.
func check(t *testing.T, s string, expr, line result) {
	t.Helper()
	if got, e := parse.Expr(s); e != expr.e || !tree.Same(got, expr.line.Expr) {
		t.Fatalf("Expr(%.200q) = %v, %v; want %v", s, got, e, expr)
	} else if e == api.OK && !tree.Right(got) {
		t.Fatalf("Expr(%.200q) = %v, which is not right", s, got)
	}
	if got, e := parse.Line(s); e != line.e || !sameLine(got, line.line) {
		t.Fatalf("Line(%.200q) = %v, %v; want %v", s, got, e, line)
	} else if e == api.OK && !tree.Right(got.Expr) {
		t.Fatalf("Line(%.200q) = %v, which is not right", s, got)
	}
}

func checkTokens(t *testing.T, l []lex.Token) {
	t.Helper()
	expr, line := wanted(t, l)
	check(t, lex.Glue(l), expr, line)
}

func tokensOf(t *testing.T, s string) []lex.Token {
	t.Helper()
	l, e := lex.Tokens(s)
	if e != api.OK {
		t.Fatalf("%q has no tokens", s)
	}
	return l
}

// lists calls f with all lists of up to n tokens of an alphabet.
func lists(alphabet []lex.Token, n int, f func(l []lex.Token)) {
	var grow func(l []lex.Token)
	grow = func(l []lex.Token) {
		f(l)
		if len(l) < n {
			for _, t := range alphabet {
				grow(append(l, t))
			}
		}
	}
	grow(make([]lex.Token, 0, n))
}

func TestAllLists(t *testing.T) {
	for _, c := range []struct {
		alphabet string
		n        int
	}{
		{"↑ ↓ ⌽ ⍉ ⍴ , [ ] ( ) ⍬ ← x 0 16 ¯1", 4},
		{"↑ ⌽ , [ ] ( ) ← x 1", 5},
		{"⌽ , [ ] ( ) x 1", 5},
		{"⌽ [ ] ( ) x", 7},
		{"← , x 1", 8},
	} {
		lists(tokensOf(t, c.alphabet), c.n, func(l []lex.Token) { checkTokens(t, l) })
	}
}

// Around each function, with and without an axis, each kind of operand.
func TestAllFunctions(t *testing.T) {
	lefts := []string{"", "x", "7", "1 ¯2 3", "⍬", "(x)", "((1 2))", "(⍬)", "(⌽x)", "(⌽[1]x)", "(⍉x)", "(,x)", "(x,y)", "(2↑x)", "((x,y))", "()", "(", ")", "x y", "1 x", "x 1", "⍬ ⍬", "1 ⍬", "⍬ 1", "(1)2", "1(2)", "x(y)", "(x)(y)", "y,x", "a←", "a←x", "y↑"}
	glyphs := []string{"↑", "↓", "⌽", "⍉", "⍴", ",", "←", ""}
	axes := []string{"", "[0]", "[1]", "[15]", "[16]", "[17]", "[¯1]", "[9223372036854775807]", "[¯9223372036854775808]", "[4294967296]", "[]", "[x]", "[⍬]", "[0 1]", "[(0)]", "[0", "0]", "[0][0]", "[0)", "[", "]", "(0)"}
	rights := append([]string{"x,[2]y", "⌽[3]x", "2↑1↓x", "x)", "(x"}, lefts...)
	for _, left := range lefts {
		for _, glyph := range glyphs {
			for _, axis := range axes {
				for _, right := range rights {
					checkTokens(t, tokensOf(t, left+glyph+axis+" "+right))
				}
			}
		}
	}
}

func TestExamples(t *testing.T) {
	name := func(s string) api.Tree { return api.Tree{Kind: api.Name, Axis: api.NoAxis, Name: s} }
	literal := func(l ...int64) api.Tree { return api.Tree{Kind: api.Literal, Axis: api.NoAxis, Nums: l} }
	node := func(kind, fn, axis int, kids ...api.Tree) api.Tree {
		return api.Tree{Kind: kind, Fn: fn, Axis: axis, Kids: kids}
	}
	x, y, z := name("x"), name("y"), name("z_1")
	for s, want := range map[string]api.Tree{
		"x":                 x,
		"2↑x,y":             node(api.Dyad, api.Take, -1, literal(2), node(api.Dyad, api.Ravel, -1, x, y)),
		"(1 2)⍴x":           node(api.Dyad, api.Reshape, -1, literal(1, 2), x),
		"1 2⍴x":             node(api.Dyad, api.Reshape, -1, literal(1, 2), x),
		"⍬⍴z_1":             node(api.Dyad, api.Reshape, -1, literal(), z),
		"x↓⍬":               node(api.Dyad, api.Drop, -1, x, literal()),
		"0⍉⍉x":              node(api.Dyad, api.Transpose, -1, literal(0), node(api.Monad, api.Transpose, -1, x)),
		"1⌽[15]⌽[0]x":       node(api.Dyad, api.Reverse, 15, literal(1), node(api.Monad, api.Reverse, 0, x)),
		"((x,y),z_1),[2],x": node(api.Dyad, api.Ravel, 2, node(api.Dyad, api.Ravel, -1, node(api.Dyad, api.Ravel, -1, x, y), z), node(api.Monad, api.Ravel, -1, x)),
		"x,y,z_1":           node(api.Dyad, api.Ravel, -1, x, node(api.Dyad, api.Ravel, -1, y, z)),
		"(⌽x),[15]y":        node(api.Dyad, api.Ravel, 15, node(api.Monad, api.Reverse, -1, x), y),
		"9223372036854775807 ¯9223372036854775808": literal(math.MaxInt64, math.MinInt64),
	} {
		expr := result{line: api.Line{Expr: want}}
		check(t, s, expr, expr)
		line := result{line: api.Line{Name: "A_9", Expr: want}}
		check(t, "A_9←"+s, result{e: api.ErrSyntax}, line)
	}
}

// The texts that have no tokens, or no expression among them.
func TestNoExpressions(t *testing.T) {
	wrong := result{e: api.ErrSyntax}
	for _, s := range []string{
		"", " ", "\t\r ", "\n", "x\n", "x\ny", "01", "¯0", "¯", "5x", "x+y", "x.y", "9223372036854775808", "⌽[1.0]x", "x⊤", "x\xff", "\xff", "x\x00", "x,\xe2\x8c", "\ufeffx", "é", "x；y",
		"←", "a←", "←x", "a←←x", "a←b←x", "1←x", "⍬←x", "(a)←x", "a b←x", "a 1←x", "↑←x", "(a←x)", "x,a←x", "a[0]←x", "a←x y", "a←x)", "a←()", "a←01",
		"↑x", "↓x", "⍴x", "(x,y)⍴z", "x,", ",", "x x", ")", "(", "()", "(())", ")(", "[0]", "[0]x", "x[0]",
	} {
		check(t, s, wrong, wrong)
	}
}

// deep returns a text of nodes that begin and end with the given texts, one in the other, around an operand.
func deep(front, operand, back string, depth int) string {
	return strings.Repeat(front, depth-1) + operand + strings.Repeat(back, depth-1)
}

func TestDepths(t *testing.T) {
	for _, c := range [][3]string{
		{",", "x", ""}, {"⌽", "1 2", ""}, {"⍉", "⍬", ""}, {"⌽[15]", "x", ""},
		{"2↑", "x", ""}, {"y↓", "1", ""}, {"(1)⌽", "x", ""}, {"⍬⍴", "x", ""}, {"x⍉", "⍬", ""}, {"x,", "x", ""}, {"x,[1]", "x", ""}, {"1⌽[0]", "x", ""},
		{"(", "x", ",y)"}, {"(", "x", ",[3]⍬)"}, {",(", "x", ")"}, {"((", "x", "),y)"}, {"x↑((", "x", "))"}, {"(", ",x", ",y)"},
	} {
		extra := 0
		if strings.HasPrefix(c[1], ",") {
			extra = 1
		}
		for _, depth := range []int{1, 2, 98, 99, 100, 101, 102, 1000, 1001} {
			s := deep(c[0], c[1], c[2], depth)
			expr, line := result{e: api.ErrLimit}, result{e: api.ErrLimit}
			if depth+extra <= api.MaxDepth {
				got, e := parse.Expr(s)
				if e != api.OK || tree.Depth(got) != depth+extra || !tree.Right(got) {
					t.Fatalf("Expr(%.200q) = %v, %v; want the depth %d", s, got, e, depth+extra)
				}
				expr, line = result{line: api.Line{Expr: got}}, result{line: api.Line{Name: "a", Expr: got}}
			}
			wrong := result{e: api.ErrSyntax}
			check(t, s, expr, expr)
			check(t, "(("+s+"))", expr, expr)
			check(t, "a←"+s, wrong, line)
			for _, other := range []string{s + ")", "(" + s, s + " x y", s + ",", s + "]", s + "←", "↑" + s, "+" + s, s + " 01", "a←b←" + s, "1←" + s} {
				check(t, other, wrong, wrong)
			}
		}
	}
}

// Deep operands on the left and on the right: the deeper one counts.
func TestDeeperOperand(t *testing.T) {
	for left := 97; left <= 101; left++ {
		for right := 97; right <= 101; right++ {
			s := "(" + deep(",", "x", "", left) + "),[1]" + deep("2↑", "y", "", right)
			got, e := parse.Expr(s)
			if max(left, right)+1 > api.MaxDepth {
				if e != api.ErrLimit || !tree.Same(got, api.Tree{}) {
					t.Fatalf("Expr of depths %d and %d: %v", left, right, e)
				}
			} else if e != api.OK || tree.Depth(got) != max(left, right)+1 {
				t.Fatalf("Expr of depths %d and %d: %v, depth %d", left, right, e, tree.Depth(got))
			}
		}
	}
}

// Texts at the limit of layer 7: parentheses are no depth, and a wrong text is no deep one.
func TestLongTexts(t *testing.T) {
	x := result{line: api.Line{Expr: api.Tree{Kind: api.Name, Axis: api.NoAxis, Name: "x"}}}
	wrong, limit := result{e: api.ErrSyntax}, result{e: api.ErrLimit}
	half, most := api.MaxBytes/2-1, api.MaxBytes
	check(t, strings.Repeat("(", half)+"x"+strings.Repeat(")", half), x, x)
	check(t, strings.Repeat("(", half)+"x "+strings.Repeat(")", half), x, x)
	check(t, strings.Repeat("(", half)+"x  "+strings.Repeat(")", half), wrong, wrong)
	check(t, strings.Repeat("(", half+1)+"x"+strings.Repeat(")", half), wrong, wrong)
	check(t, strings.Repeat("(", half)+"x"+strings.Repeat(")", half+1), wrong, wrong)
	check(t, strings.Repeat("(", most), wrong, wrong)
	check(t, strings.Repeat(")", most), wrong, wrong)
	check(t, strings.Repeat("(,", most/2), wrong, wrong)
	check(t, strings.Repeat("x,", most/2), wrong, wrong)
	check(t, strings.Repeat(",", most), wrong, wrong)
	check(t, strings.Repeat(",", most-1)+"x", limit, limit)
	check(t, strings.Repeat(",", most)+"x", wrong, wrong)
	check(t, strings.Repeat(",(", most/3)+"x"+strings.Repeat(")", most/3), limit, limit)
	check(t, strings.Repeat("(", most/4)+"x"+strings.Repeat(",x)", most/4-1), wrong, wrong)
	check(t, strings.Repeat("(", most/4-1)+"x"+strings.Repeat(",x)", most/4-1), limit, limit)
	check(t, strings.Repeat(" ", most-1)+"x", x, x)
	check(t, strings.Repeat(" ", most)+"x", wrong, wrong)
	check(t, strings.Repeat(" ", most), wrong, wrong)
	check(t, strings.Repeat("x ", most/2), wrong, wrong)

	long := strings.Repeat("x", most)
	name := result{line: api.Line{Expr: api.Tree{Kind: api.Name, Axis: api.NoAxis, Name: long}}}
	check(t, long, name, name)
	check(t, long+"x", wrong, wrong)

	nums := slices.Repeat([]int64{7}, most/2)
	literal := result{line: api.Line{Expr: api.Tree{Kind: api.Literal, Axis: api.NoAxis, Nums: nums}}}
	check(t, strings.Repeat("7 ", most/2), literal, literal)
}

// writer makes random trees and their texts.
type writer struct {
	r *rand.Rand
}

func (w writer) tree(depth int) api.Tree {
	if depth == 1 || w.r.IntN(6) == 0 {
		return w.leaf()
	}
	node := api.Tree{Kind: api.Monad, Fn: []int{3, 4, 6}[w.r.IntN(3)], Axis: -1}
	if w.r.IntN(3) > 0 {
		node.Kind, node.Fn = api.Dyad, 1+w.r.IntN(6)
		left := w.leaf()
		if node.Fn == api.Ravel {
			left = w.tree(depth - 1)
		}
		node.Kids = append(node.Kids, left)
	}
	node.Kids = append(node.Kids, w.tree(depth-1))
	if w.r.IntN(2) == 0 && (node.Fn == api.Reverse || node.Fn == api.Ravel && node.Kind == api.Dyad) {
		node.Axis = w.r.IntN(16)
	}
	return node
}

func (w writer) leaf() api.Tree {
	if w.r.IntN(2) == 0 {
		return api.Tree{Kind: api.Name, Axis: -1, Name: []string{"x", "y", "_", "Ab_9"}[w.r.IntN(4)]}
	}
	leaf := api.Tree{Kind: api.Literal, Axis: -1}
	for range w.r.IntN(4) {
		leaf.Nums = append(leaf.Nums, []int64{0, 1, -1, 16, math.MaxInt64, math.MinInt64, w.r.Int64()}[w.r.IntN(7)])
	}
	return leaf
}

// tokens returns the parts of a text of a tree, with parentheses where they are needed and here and there.
func (w writer) tokens(node api.Tree, first bool) []string {
	var l []string
	switch node.Kind {
	case api.Literal:
		for _, n := range node.Nums {
			l = append(l, lex.Decimal(n))
		}
		if len(node.Nums) == 0 {
			l = append(l, "⍬")
		}
	case api.Name:
		l = append(l, node.Name)
	default:
		if node.Kind == api.Dyad {
			l = append(l, w.tokens(node.Kids[0], true)...)
		}
		l = append(l, []string{"", "↑", "↓", "⌽", "⍉", "⍴", ","}[node.Fn])
		if node.Axis >= 0 {
			l = append(l, "[", lex.Decimal(int64(node.Axis)), "]")
		}
		l = append(l, w.tokens(node.Kids[len(node.Kids)-1], false)...)
		if first {
			l = around(l)
		}
	}
	for w.r.IntN(8) == 0 {
		l = around(l)
	}
	return l
}

func around(l []string) []string { return slices.Concat([]string{"("}, l, []string{")"}) }

// spread joins parts with blanks between all of them.
func (w writer) spread(l []string) string {
	var s strings.Builder
	for _, part := range l {
		s.WriteString(part)
		for ok := true; ok; ok = w.r.IntN(2) == 0 {
			s.WriteByte(" \t\r"[w.r.IntN(3)])
		}
	}
	return s.String()
}

func glued(t *testing.T, l []string) string { return lex.Glue(tokensOf(t, strings.Join(l, " "))) }

func TestRandomTrees(t *testing.T) {
	w := writer{rand.New(rand.NewPCG(9, 1))}
	for range 30000 {
		want := w.tree(1 + w.r.IntN(9))
		parts := w.tokens(want, false)
		expr := result{line: api.Line{Expr: want}}
		for _, s := range []string{glued(t, parts), w.spread(parts), " \r\t" + strings.Join(parts, " ")} {
			check(t, s, expr, expr)
		}
		parts = append([]string{"v", "←"}, parts...)
		line := result{line: api.Line{Name: "v", Expr: want}}
		for _, s := range []string{glued(t, parts), w.spread(parts)} {
			check(t, s, result{e: api.ErrSyntax}, line)
		}
	}
}

// Texts of trees with a part that is left out, doubled, replaced or moved.
func TestChangedTexts(t *testing.T) {
	w := writer{rand.New(rand.NewPCG(9, 2))}
	others := strings.Fields("↑ ↓ ⌽ ⍉ ⍴ , [ ] ( ) ⍬ ← x 0 15 16 ¯1")
	wrong := 0
	for range 30000 {
		parts := w.tokens(w.tree(1+w.r.IntN(5)), false)
		if len(parts) > 40 {
			continue
		}
		if w.r.IntN(2) == 0 {
			parts = append([]string{"v", "←"}, parts...)
		}
		for range 1 + w.r.IntN(2) {
			at, other := w.r.IntN(len(parts)), w.r.IntN(len(parts))
			switch w.r.IntN(5) {
			case 0:
				parts = slices.Delete(slices.Clone(parts), at, at+1)
			case 1:
				parts = slices.Insert(slices.Clone(parts), at, parts[other])
			case 2:
				parts = slices.Insert(slices.Clone(parts), at, others[w.r.IntN(len(others))])
			case 3:
				parts[at] = others[w.r.IntN(len(others))]
			case 4:
				parts[at], parts[other] = parts[other], parts[at]
			}
			if len(parts) == 0 {
				break
			}
		}
		l := tokensOf(t, strings.Join(parts, " "))
		checkTokens(t, l)
		if expr, _ := wanted(t, l); expr.e != api.OK {
			wrong++
		}
	}
	if wrong < 5000 {
		t.Errorf("only %d texts were wrong", wrong)
	}
}

// Random texts, also of bytes that are no tokens: an error has no tree.
func TestRandomTexts(t *testing.T) {
	r := rand.New(rand.NewPCG(9, 3))
	parts := []string{"↑", "⌽", ",", "[", "]", "(", ")", "⍬", "←", "x", "0", "15", "¯", " ", "+", "\xff", "\xe2", "\n", "é"}
	for range 200000 {
		var s string
		for range r.IntN(9) {
			s += parts[r.IntN(len(parts))]
		}
		if l, e := lex.Tokens(s); e == api.OK {
			expr, line := wanted(t, l)
			check(t, s, expr, line)
		} else {
			check(t, s, result{e: api.ErrSyntax}, result{e: api.ErrSyntax})
		}
	}
}

// spoil changes all that a tree holds, also behind the ends of its lists.
func spoil(node *api.Tree) {
	nums := node.Nums[:cap(node.Nums)]
	for i := range nums {
		nums[i] = -77
	}
	for i := range node.Kids {
		spoil(&node.Kids[i])
	}
	kids := node.Kids[:cap(node.Kids)]
	for i := range kids {
		kids[i] = api.Tree{Kind: 77}
	}
}

func TestResultsAreNew(t *testing.T) {
	s := "1 2 3,[1](4 5 6 7 8,x),⌽[2]9 10 11 12 13"
	first, _ := parse.Expr(s)
	want := tree.Copy(first)
	line, _ := parse.Line("a←" + s)
	second, _ := parse.Expr(s)
	spoil(&first)
	if !tree.Same(second, want) || !tree.Same(line.Expr, want) {
		t.Error("a changed tree changes another one")
	}
	spoil(&second.Kids[0])
	spoil(&second.Kids[1].Kids[0])
	if !tree.Same(second.Kids[1].Kids[1], want.Kids[1].Kids[1]) {
		t.Error("a changed operand changes another one")
	}
	again, e := parse.Expr(s)
	if e != api.OK || !tree.Same(again, want) {
		t.Error("a changed tree changes later ones")
	}
}

func TestConcurrentCalls(t *testing.T) {
	var group sync.WaitGroup
	for range 8 {
		group.Go(func() {
			for range 200 {
				if got, e := parse.Expr("2↑x,1⌽[3]y"); e != api.OK || tree.Size(got) != 7 {
					t.Error(got, e)
				}
				if got, e := parse.Line("a←(x,y)⍴z"); e != api.ErrSyntax || got.Name != "" {
					t.Error(got, e)
				}
			}
		})
	}
	group.Wait()
}
