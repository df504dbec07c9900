package show_test

import (
	"math"
	"math/rand/v2"
	"slices"
	"strconv"
	"strings"
	"sync"
	"testing"

	"intarsia/api"
	"intarsia/parse"
	"intarsia/show"
	"intarsia/tree"
)

func name(s string) api.Tree { return api.Tree{Kind: api.Name, Axis: -1, Name: s} }

func literal(nums ...int64) api.Tree { return api.Tree{Kind: api.Literal, Axis: -1, Nums: nums} }

func monad(fn, axis int, right api.Tree) api.Tree {
	return api.Tree{Kind: api.Monad, Fn: fn, Axis: axis, Kids: []api.Tree{right}}
}

func dyad(fn, axis int, left, right api.Tree) api.Tree {
	return api.Tree{Kind: api.Dyad, Fn: fn, Axis: axis, Kids: []api.Tree{left, right}}
}

func join(left, right api.Tree) api.Tree { return dyad(6, -1, left, right) }

// text returns the text of a tree by the definition.
func text(t api.Tree) string {
	function := func() string {
		s := []string{"", "\u2191", "\u2193", "\u233D", "\u2349", "\u2374", ","}[t.Fn]
		if t.Axis != -1 {
			s += "[" + strconv.Itoa(t.Axis) + "]"
		}
		return s
	}
	switch {
	case t.Kind == 1 && len(t.Nums) == 0:
		return "\u236C"
	case t.Kind == 1:
		var l []string
		for _, n := range t.Nums {
			l = append(l, strings.Replace(strconv.FormatInt(n, 10), "-", "\u00AF", 1))
		}
		return strings.Join(l, " ")
	case t.Kind == 2:
		return t.Name
	case t.Kind == 3:
		return function() + text(t.Kids[0])
	case t.Kids[0].Kind > 2:
		return "(" + text(t.Kids[0]) + ")" + function() + text(t.Kids[1])
	}
	return text(t.Kids[0]) + function() + text(t.Kids[1])
}

func short(s string) string {
	if len(s) > 300 {
		return s[:300] + ".. of " + strconv.Itoa(len(s)) + " bytes"
	}
	return s
}

// checkTree compares the texts of a right tree, and of lines with it, with the wanted ones, and parses and tidies them.
func checkTree(t *testing.T, u api.Tree, want string) {
	t.Helper()
	if got := show.Expr(u); got != want {
		t.Fatalf("Expr = %s; want %s", short(got), short(want))
	}
	for _, name := range []string{"", "a", "_Z9"} {
		s := want
		if name != "" {
			s = name + "\u2190" + want
		}
		if got := show.Line(api.Line{Name: name, Expr: u}); got != s {
			t.Fatalf("Line = %s; want %s", short(got), short(s))
		}
		l, e := parse.Line(s)
		again, tidied := show.Tidy(s)
		if len(s) > api.MaxBytes {
			if e != api.ErrSyntax || tidied != e || again != "" {
				t.Fatalf("a text of %d bytes is parsed: %v, %v, %s", len(s), e, tidied, short(again))
			}
			continue
		}
		if e != api.OK || l.Name != name || !tree.Same(l.Expr, u) {
			t.Fatalf("Line(%s) = %v; this is another tree", short(s), e)
		}
		if again != s || tidied != api.OK {
			t.Fatalf("Tidy(%s) = %s, %v", short(s), short(again), tidied)
		}
	}
}

func checkTidy(t *testing.T, s, want string, wantError api.Errno) {
	t.Helper()
	if got, e := show.Tidy(s); got != want || e != wantError {
		t.Fatalf("Tidy(%q) = %s, %v; want %s, %v", short(s), short(got), e, short(want), wantError)
	}
}

func TestTexts(t *testing.T) {
	x, y, z := name("x"), name("y"), name("z_1")
	for want, u := range map[string]api.Tree{
		"2↑⌽[0]x,y": dyad(1, -1, literal(2), monad(3, 0, join(x, y))),

		"⍬":                    literal(),
		"0":                    literal(0),
		"7":                    literal(7),
		"¯7":                   literal(-7),
		"1 2":                  literal(1, 2),
		"¯1 ¯2":                literal(-1, -2),
		"1 ¯2 0,3":             join(literal(1, -2, 0), literal(3)),
		"¯9223372036854775808": literal(math.MinInt64),
		"9223372036854775807":  literal(math.MaxInt64),
		"¯9223372036854775808 9223372036854775807": literal(math.MinInt64, math.MaxInt64),
		"x":   x,
		"z_1": z,
		"_":   name("_"),
		"Ab9": name("Ab9"),

		"⌽x":     monad(3, -1, x),
		"⌽[0]x":  monad(3, 0, x),
		"⌽[9]x":  monad(3, 9, x),
		"⌽[10]x": monad(3, 10, x),
		"⌽[15]x": monad(3, 15, x),
		"⍉x":     monad(4, -1, x),
		",x":     monad(6, -1, x),
		"⌽1 2":   monad(3, -1, literal(1, 2)),
		",⍬":     monad(6, -1, literal()),
		",,⍉⌽,x": monad(6, -1, monad(6, -1, monad(4, -1, monad(3, -1, monad(6, -1, x))))),

		"x↑y":      dyad(1, -1, x, y),
		"x↓y":      dyad(2, -1, x, y),
		"x⌽y":      dyad(3, -1, x, y),
		"x⌽[0]y":   dyad(3, 0, x, y),
		"x⌽[9]y":   dyad(3, 9, x, y),
		"x⌽[10]y":  dyad(3, 10, x, y),
		"x⌽[15]y":  dyad(3, 15, x, y),
		"x⍉y":      dyad(4, -1, x, y),
		"x⍴y":      dyad(5, -1, x, y),
		"x,y":      join(x, y),
		"x,[0]y":   dyad(6, 0, x, y),
		"x,[9]y":   dyad(6, 9, x, y),
		"x,[10]y":  dyad(6, 10, x, y),
		"x,[15]y":  dyad(6, 15, x, y),
		"1 ¯2↑3 4": dyad(1, -1, literal(1, -2), literal(3, 4)),
		"⍬⍴⍬":      dyad(5, -1, literal(), literal()),
		"¯1⌽[0]¯1": dyad(3, 0, literal(-1), literal(-1)),

		"(⌽x),y":               join(monad(3, -1, x), y),
		"(⌽[15]x),[0]y":        dyad(6, 0, monad(3, 15, x), y),
		"(,x),y":               join(monad(6, -1, x), y),
		"(x,y),z_1":            join(join(x, y), z),
		"x,y,z_1":              join(x, join(y, z)),
		"(1↑x),2":              join(dyad(1, -1, literal(1), x), literal(2)),
		"((x,y),z_1),x":        join(join(join(x, y), z), x),
		"(x,y,z_1),x":          join(join(x, join(y, z)), x),
		"((⌽x),y),[1](⍉x),y":   dyad(6, 1, join(monad(3, -1, x), y), join(monad(4, -1, x), y)),
		"(,(⌽x),y),x":          join(monad(6, -1, join(monad(3, -1, x), y)), x),
		"x,⌽y":                 join(x, monad(3, -1, y)),
		"x,,y":                 join(x, monad(6, -1, y)),
		"1↑2↓x":                dyad(1, -1, literal(1), dyad(2, -1, literal(2), x)),
		"x⌽⌽x":                 dyad(3, -1, x, monad(3, -1, x)),
		"0 1⍉(x,y),[2]3⌽[1]⌽x": dyad(4, -1, literal(0, 1), dyad(6, 2, join(x, y), dyad(3, 1, literal(3), monad(3, -1, x)))),
	} {
		checkTree(t, u, want)
	}
}

// wraps returns the nodes of every function, with and without an axis, that permit the operands.
func wraps(axes []int, left, right []api.Tree) []api.Tree {
	var l []api.Tree
	for _, r := range right {
		l = append(l, monad(4, -1, r), monad(6, -1, r), monad(3, -1, r))
		for _, axis := range axes {
			l = append(l, monad(3, axis, r))
		}
		for _, operand := range left {
			l = append(l, join(operand, r))
			for _, axis := range axes {
				l = append(l, dyad(6, axis, operand, r))
			}
			if operand.Kind > 2 {
				continue
			}
			for fn := 1; fn <= 5; fn++ {
				l = append(l, dyad(fn, -1, operand, r))
			}
			for _, axis := range axes {
				l = append(l, dyad(3, axis, operand, r))
			}
		}
	}
	return l
}

func TestAllSmallTrees(t *testing.T) {
	leaves := []api.Tree{name("x"), name("_Q"), literal(), literal(5), literal(-5), literal(1, -2), literal(-1, 0, math.MaxInt64)}
	all := append(wraps([]int{0, 1, 2, 3, 4, 5, 6, 7, 8, 9, 10, 11, 12, 13, 14, 15}, leaves, leaves), leaves...)
	few := append(leaves[1:2:2], literal(-1, 2))
	few = append(few, wraps([]int{10}, few, few)...)
	all = append(all, wraps([]int{0, 15}, few, few)...)
	for _, u := range all {
		if !tree.Right(u) {
			t.Fatalf("%v is not right", u)
		}
		checkTree(t, u, text(u))
	}
}

// Trees of depth MaxDepth are right, and one more level makes a text that is too deep.
func TestDepths(t *testing.T) {
	x := name("x")
	for _, c := range []struct {
		front, back string
		deeper      func(u api.Tree) api.Tree
	}{
		{",", "", func(u api.Tree) api.Tree { return monad(6, -1, u) }},
		{"⌽[15]", "", func(u api.Tree) api.Tree { return monad(3, 15, u) }},
		{"x,", "", func(u api.Tree) api.Tree { return join(x, u) }},
		{"¯1 2⌽[0]", "", func(u api.Tree) api.Tree { return dyad(3, 0, literal(-1, 2), u) }},
		{"(⍉x),[9]", "", func(u api.Tree) api.Tree { return dyad(6, 9, monad(4, -1, x), u) }},
		{"(⌽", "),x", func(u api.Tree) api.Tree { return join(monad(3, -1, u), x) }},
		{"((1↑x,y),", "),x", func(u api.Tree) api.Tree {
			return join(join(dyad(1, -1, literal(1), join(x, name("y"))), u), x)
		}},
	} {
		u, s := literal(7, 8), "7 8"
		for tree.Depth(u) <= api.MaxDepth {
			checkTree(t, u, s)
			u, s = c.deeper(u), c.front+s+c.back
		}
		checkTidy(t, s, "", api.ErrLimit)
		checkTidy(t, "a←"+s, "", api.ErrLimit)
		checkTidy(t, s+")", "", api.ErrSyntax)
	}
	// Left operands in left operands, where only the innermost one has no parentheses.
	u, s := join(x, x), "x,x"
	for depth := 2; depth <= api.MaxDepth; depth++ {
		checkTree(t, u, s)
		u, s = join(u, x), "("+s+"),x"
	}
	checkTidy(t, s, "", api.ErrLimit)
}

// The limit of texts that are parsed is none of texts that are written.
func TestLongTexts(t *testing.T) {
	const most = 65536
	for _, n := range []int{most - 1, most, most + 1, 1 << 20} {
		checkTree(t, name(strings.Repeat("x", n)), strings.Repeat("x", n))
		checkTree(t, monad(6, -1, name(strings.Repeat("x", n))), ","+strings.Repeat("x", n))
	}
	for _, n := range []int{most/4 - 1, most / 4, most/4 + 1, most} {
		nums := slices.Repeat([]int64{-1}, n)
		checkTree(t, literal(nums...), strings.Repeat("¯1 ", n-1)+"¯1")
		checkTree(t, literal(append(nums, 1000000)...), strings.Repeat("¯1 ", n)+"1000000")
	}
	u, s := name("x"), "x"
	for range 13 {
		u = join(u, u)
		s = text(u)
		checkTree(t, u, s)
	}
	for len(s) < 1<<23 {
		left := s
		if u.Kind > 2 {
			left = "(" + s + ")"
		}
		u, s = dyad(6, 15, u, u), left+",[15]"+s
		if got := show.Expr(u); got != s {
			t.Fatalf("Expr of a tree of depth %d = %s; want %s", tree.Depth(u), short(got), short(s))
		}
	}
	if len(s) < 1<<23 || u.Kind != api.Dyad {
		t.Fatalf("the longest text has %d bytes", len(s))
	}
}

// The nodes of a tree may share memory, so that a result would have more than 2^31 - 1 bytes; the calls only have to return.
func TestTooLongTexts(t *testing.T) {
	u := name(strings.Repeat("x", 65536))
	for range 99 {
		u = join(u, u)
	}
	show.Expr(u)
	show.Line(api.Line{Name: "a", Expr: u})
}

// A tidied text may be longer than the text that it was, and too long.
func TestTidyLongTexts(t *testing.T) {
	s, want := "1234"+strings.Repeat("¯1", 16383), "1234"+strings.Repeat(" ¯1", 16383)
	checkTidy(t, s, want, api.OK)
	checkTidy(t, want, want, api.OK)
	checkTidy(t, s+"¯1", want+" ¯1", api.OK)
	checkTidy(t, want+" ¯1", "", api.ErrSyntax)
	checkTidy(t, "a←"+s, "a←"+want, api.OK)
	checkTidy(t, "a←"+want, "", api.ErrSyntax)
	checkTidy(t, strings.Repeat("(", 32767)+"x"+strings.Repeat(")", 32767), "x", api.OK)
	checkTidy(t, strings.Repeat(" ", 65535)+"x", "x", api.OK)
	checkTidy(t, strings.Repeat(" ", 65536)+"x", "", api.ErrSyntax)
}

func TestTidy(t *testing.T) {
	for s, want := range map[string]string{
		"x":                             "x",
		" x ":                           "x",
		"\t( \rx ) ":                    "x",
		"⍬":                             "⍬",
		"((⍬))":                         "⍬",
		"1  2\t¯3":                      "1 2 ¯3",
		"1¯2¯3":                         "1 ¯2 ¯3",
		"(1 2)⍴x":                       "1 2⍴x",
		" ( 2   3 ) ⍴ ( x )":            "2 3⍴x",
		"(x)⌽[ 3 ](y)":                  "x⌽[3]y",
		"x,(y,z)":                       "x,y,z",
		"(x,y),z":                       "(x,y),z",
		"((x),((y))) , [ 15 ] ( z )":    "(x,y),[15]z",
		"(((⌽x))),(⍉(,(y)))":            "(⌽x),⍉,y",
		"2 ↑ ( ⌽ [ 0 ] ( x , y ) )":     "2↑⌽[0]x,y",
		"a←x":                           "a←x",
		" a ← ( x ) ":                   "a←x",
		"a ← (x) , ((y),z)":             "a←x,y,z",
		"_9\t←\r( ( 1 ) , 2 ) , ( ⍬ )":  "_9←(1,2),⍬",
		"a←9223372036854775807":         "a←9223372036854775807",
		"(a),a":                         "a,a",
		"(⌽1 2 3),(4 5 6),(¯1⌽[0]7 8 )": "(⌽1 2 3),4 5 6,¯1⌽[0]7 8",
	} {
		checkTidy(t, s, want, api.OK)
		checkTidy(t, want, want, api.OK)
	}
	for _, s := range []string{
		"", " ", "\t\r", "\n", "x\n", "x\ny", "()", "(x", "x)", "x y", "1 x", "x,", ",", "↑x", "(x,y)⍴z", "(⌽x)↑y", "⍉[0]x", ",[0]x", "x⍴[1]y", "⌽[16]x", "⌽[¯1]x", "⌽[]x", "x[0]",
		"a←", "←", "←x", "a←b←x", "a←←x", "1←x", "(a)←x", "(a←x)", "a b←x", "a←x y", "01", "¯0", "5x", "9223372036854775808", "x+y", "é", "\xff", "x\x00", "\ufeffx",
	} {
		checkTidy(t, s, "", api.ErrSyntax)
	}
	for _, front := range []string{",", "⌽[1]", "x,", "2↑", "y,[0]"} {
		s := strings.Repeat(front, 98) + "x"
		checkTidy(t, " "+s, s, api.OK)
		checkTidy(t, front+" ( "+s+" ) ", front+s, api.OK)
		checkTidy(t, strings.Repeat(front, 3)+s, "", api.ErrLimit)
		checkTidy(t, "a←"+strings.Repeat(front, 300)+s, "", api.ErrLimit)
		checkTidy(t, strings.Repeat(front, 3)+s+" x", "", api.ErrSyntax)
	}
}

// maker makes random trees, and texts of them.
type maker struct {
	*rand.Rand
}

func (m maker) leaf() api.Tree {
	if m.IntN(2) == 0 {
		return name([]string{"x", "y", "_", "Ab_9"}[m.IntN(4)])
	}
	nums := make([]int64, m.IntN(4))
	for i := range nums {
		nums[i] = []int64{0, 1, -1, 10, math.MaxInt64, math.MinInt64, int64(m.Uint64()) >> m.IntN(64)}[m.IntN(7)]
	}
	return literal(nums...)
}

func (m maker) tree(depth int) api.Tree {
	if depth == 1 || m.IntN(6) == 0 {
		return m.leaf()
	}
	fn, axis := 1+m.IntN(6), m.IntN(32)-16
	if fn != api.Reverse && fn != api.Ravel || axis < 0 {
		axis = -1
	}
	right := m.tree(depth - 1)
	switch {
	case fn == api.Ravel && (axis >= 0 || m.IntN(3) > 0):
		return dyad(fn, axis, m.tree(depth-1), right)
	case fn >= api.Reverse && fn != api.Reshape && m.IntN(2) == 0:
		return monad(fn, axis, right)
	}
	return dyad(fn, axis, m.leaf(), right)
}

// loose returns a text of a tree with additional blanks and parentheses.
func (m maker) loose(u api.Tree) string {
	var s string
	switch u.Kind {
	case api.Literal, api.Name:
		s = strings.ReplaceAll(text(u), " ", m.blank()+" "+m.blank())
	default:
		if u.Kind == api.Dyad {
			left := m.loose(u.Kids[0])
			if u.Kids[0].Kind > 2 {
				left = m.around(left)
			}
			s = left + m.blank()
		}
		s += text(api.Tree{Kind: 3, Fn: u.Fn, Axis: -1, Kids: []api.Tree{name("")}})
		if u.Axis >= 0 {
			s += m.blank() + "[" + m.blank() + strconv.Itoa(u.Axis) + m.blank() + "]"
		}
		s += m.blank() + m.loose(u.Kids[len(u.Kids)-1])
	}
	for m.IntN(4) == 0 {
		s = m.around(s)
	}
	return m.blank() + s + m.blank()
}

func (m maker) around(s string) string { return "(" + m.blank() + s + m.blank() + ")" }

func (m maker) blank() string { return []string{"", "", " ", "\t", "\r", "  "}[m.IntN(6)] }

func TestRandomTrees(t *testing.T) {
	m := maker{rand.New(rand.NewPCG(10, 1))}
	for range 20000 {
		u := m.tree(1 + m.IntN(8))
		want := text(u)
		checkTree(t, u, want)
		checkTidy(t, m.loose(u), want, api.OK)
		checkTidy(t, m.blank()+"v"+m.blank()+"←"+m.loose(u), "v←"+want, api.OK)
	}
}

// Texts of any kind are tidied to the text of their line, and again to the same, or have the error of their line.
func TestRandomTexts(t *testing.T) {
	r := rand.New(rand.NewPCG(10, 2))
	parts := []string{"↑", "⌽", ",", "[", "]", "(", ")", "⍬", "←", "x", "y ", "0", "15", "¯2", " ", "x,", "(x,y),", "⌽[1]", "2↓", "+", "\xff", "\n"}
	tidied := 0
	for range 200000 {
		var s string
		for range r.IntN(7) {
			s += parts[r.IntN(len(parts)-r.IntN(2)*3)]
		}
		l, e := parse.Line(s)
		if e != api.OK {
			checkTidy(t, s, "", e)
			continue
		}
		want := text(l.Expr)
		if l.Name != "" {
			want = l.Name + "←" + want
		}
		checkTidy(t, s, want, api.OK)
		checkTidy(t, want, want, api.OK)
		tidied++
	}
	if tidied < 5000 {
		t.Errorf("only %d texts were tidied", tidied)
	}
}

func TestArgumentsStay(t *testing.T) {
	nums := []int64{1, -2, 3, 4, 5}
	kids := []api.Tree{literal(nums[:2]...), name("x"), name("unused")}
	u := api.Tree{Kind: api.Dyad, Fn: api.Take, Axis: -1, Kids: kids[:2]}
	want := tree.Copy(u)
	for range 2 {
		if got := show.Line(api.Line{Name: "a", Expr: u}); got != "a←1 ¯2↑x" {
			t.Errorf("Line = %s", got)
		}
	}
	if !tree.Same(u, want) || !slices.Equal(nums, []int64{1, -2, 3, 4, 5}) || !tree.Same(kids[2], name("unused")) {
		t.Error("a tree or the capacity behind it was changed")
	}
}

func TestConcurrentCalls(t *testing.T) {
	var group sync.WaitGroup
	for i := range 8 {
		group.Go(func() {
			n := strconv.Itoa(i)
			for range 200 {
				if got, e := show.Tidy(" a" + n + " ← (x , " + n + ") , y"); got != "a"+n+"←(x,"+n+"),y" || e != api.OK {
					t.Error(got, e)
				}
				if got := show.Expr(monad(api.Reverse, i, literal(int64(i)))); got != "⌽["+n+"]"+n {
					t.Error(got)
				}
			}
		})
	}
	group.Wait()
}

// Trees that are not right, and lines with no name, are left open; the calls only have to return.
func TestOtherTrees(t *testing.T) {
	x := name("x")
	extremes := []int{math.MinInt, -17, -2, -1, 0, 1, 2, 3, 4, 5, 6, 7, 15, 16, 256 + 1, 1<<32 + 3, math.MaxInt}
	for _, kind := range extremes {
		for _, fn := range extremes {
			for _, axis := range extremes {
				for _, kids := range [][]api.Tree{nil, {x}, {x, x}, {{}, x}, {x, {}}, {x, x, x}, {dyad(1, -1, x, x), x}, {monad(9, 3, x)}} {
					u := api.Tree{Kind: kind, Fn: fn, Axis: axis, Kids: kids}
					for _, u := range []api.Tree{u, monad(6, -1, u), join(u, x), join(x, u)} {
						show.Expr(u)
						show.Line(api.Line{Name: "a b\xff", Expr: u})
						u.Name, u.Nums = "\n", []int64{1}
						show.Expr(u)
					}
				}
			}
		}
	}
}

func TestEndlessTrees(t *testing.T) {
	x := name("x")
	for _, kids := range [][]api.Tree{{{}}, {{}, x}, {x, {}}, {{}, {}}, {join(x, x), {}}} {
		for kind := api.Literal; kind <= api.Dyad; kind++ {
			for fn := range 8 {
				u := api.Tree{Kind: kind, Fn: fn, Axis: -1, Kids: slices.Clone(kids)}
				for i, kid := range kids {
					if kid.Kind == 0 {
						u.Kids[i] = u
					}
				}
				show.Expr(u)
				show.Line(api.Line{Name: "a", Expr: u})
			}
		}
	}
	for _, depth := range []int{101, 102, 1000, 1001, 65536} {
		for _, deeper := range []func(u api.Tree) api.Tree{
			func(u api.Tree) api.Tree { return monad(6, -1, u) },
			func(u api.Tree) api.Tree { return join(u, x) },
			func(u api.Tree) api.Tree { return dyad(1, -1, x, u) },
		} {
			u := x
			for range depth - 1 {
				u = deeper(u)
			}
			show.Expr(u)
			show.Line(api.Line{Name: "a", Expr: u})
		}
	}
}
