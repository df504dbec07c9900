package show

import (
	"math"
	"strings"
	"testing"

	"intarsia/api"
	"intarsia/parse"
)

// A text at the limit of results is too long to be tried, so that smaller limits are.

func TestRoom(t *testing.T) {
	for _, s := range []string{"x", "⍬", "1 ¯2", "⌽[15]x", "2↑x", "(x,y),[0]z", "name←⌽(,x),¯1 ¯2⍉y"} {
		l, e := parse.Line(s)
		if e != api.OK {
			t.Fatalf("%s: %v", s, e)
		}
		for room := range len(s) {
			if got := write(l, room); got != "" {
				t.Errorf("write of %s with a room of %d bytes = %s", s, room, got)
			}
		}
		for _, room := range []int{len(s), len(s) + 1, maxText} {
			if got := write(l, room); got != s {
				t.Errorf("write with a room of %d bytes = %s; want %s", room, got, s)
			}
		}
	}
	if maxText != math.MaxInt32 {
		t.Errorf("maxText = %d", maxText)
	}
}

// The Kids of each node are the same memory, so that there are 2^99 leaves.
func TestRoomOfSharedKids(t *testing.T) {
	for _, leaf := range []api.Tree{
		{Kind: api.Name, Axis: api.NoAxis, Name: "x"},
		{Kind: api.Name, Axis: api.NoAxis},
		{Kind: api.Name, Axis: api.NoAxis, Name: strings.Repeat("x", 10000)},
		{Kind: api.Literal, Axis: api.NoAxis},
		{Kind: api.Literal, Axis: api.NoAxis, Nums: make([]int64, 10000)},
	} {
		for fn := range api.Ravel + 2 {
			u := leaf
			for range api.MaxDepth - 1 {
				u = api.Tree{Kind: api.Dyad, Fn: fn, Axis: api.NoAxis, Kids: []api.Tree{u, u}}
			}
			if got := write(api.Line{Name: "a", Expr: u}, 1<<20); got != "" {
				t.Errorf("write of 2^99 leaves = %.100s", got)
			}
		}
	}
}

// A node that has no text leaves none to the nodes around it.
func TestNoText(t *testing.T) {
	x := api.Tree{Kind: api.Name, Axis: api.NoAxis, Name: "x"}
	ravel := func(kids ...api.Tree) api.Tree {
		return api.Tree{Kind: api.Monad + len(kids) - 1, Fn: api.Ravel, Axis: api.NoAxis, Kids: kids}
	}
	for _, u := range []api.Tree{
		{},
		{Kind: 5, Axis: api.NoAxis, Kids: []api.Tree{x}},
		{Kind: api.Name, Axis: api.NoAxis},
		{Kind: api.Monad, Fn: api.Ravel, Axis: api.NoAxis},
		{Kind: api.Monad, Axis: api.NoAxis, Kids: []api.Tree{x}},
		{Kind: api.Monad, Fn: api.Ravel + 1, Axis: api.NoAxis, Kids: []api.Tree{x}},
		{Kind: api.Dyad, Fn: api.Ravel, Axis: api.NoAxis, Kids: []api.Tree{x}},
		{Kind: api.Dyad, Axis: api.NoAxis, Kids: []api.Tree{x, x}},
		{Kind: api.Dyad, Fn: -1, Axis: api.NoAxis, Kids: []api.Tree{x, x}},
	} {
		for _, u := range []api.Tree{u, ravel(u), ravel(u, x), ravel(x, u)} {
			if got := write(api.Line{Name: "a", Expr: u}, maxText); got != "" {
				t.Errorf("write of %v = %s", u, got)
			}
		}
	}
}
