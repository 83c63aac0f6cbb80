package sift_test

import (
	"fmt"
	"math"
	"slices"
	"testing"

	"rill/api"
	"rill/sift"
)

func sym(block, esi int, data string) api.Sym {
	return api.Sym{Block: block, Esi: esi, Data: []byte(data)}
}

func show(syms []api.Sym) string {
	text := ""
	for _, s := range syms {
		text += fmt.Sprintf("(%d %d %s)", s.Block, s.Esi, s.Data)
	}
	return text
}

func TestOnlyThoseThatFitAndEachOnce(t *testing.T) {
	// 40 bytes in symbols of one: two blocks.
	got := sift.Symbols(40, 1,
		[]api.Sym{sym(1, 5, "a"), sym(0, 5, "bb"), sym(0, 5, ""), sym(2, 0, "c"), sym(-1, 0, "c"), sym(math.MaxInt64, 0, "c")},
		nil,
		[]api.Sym{sym(0, 5, "d"), sym(1, 5, "e"), sym(0, -1, "f"), sym(0, 1<<24, "g"), sym(0, 1<<24-1, "h"), sym(0, 5, "i"), sym(0, 0, "j")},
	)
	if show(got) != "(1 5 a)(0 5 d)(0 16777215 h)(0 0 j)" {
		t.Error(show(got))
	}
	for _, c := range []struct{ size, t int }{{0, 1}, {1025, 1}, {5, 0}, {5, 65}} {
		if got := sift.Symbols(c.size, c.t, []api.Sym{sym(0, 0, "")}); len(got) != 0 {
			t.Error("sizes that can't be", show(got))
		}
	}
}

func TestTheFirstOfEachBlock(t *testing.T) {
	var one, two []api.Sym
	for esi := range 200 {
		one = append(one, sym(0, esi, "a"), sym(0, esi, "b"))
		two = append(two, sym(1, esi, "c"))
	}
	got := sift.Symbols(40, 1, two[:100], one, two)
	want := slices.Concat(two[:100])
	for esi := range 128 {
		want = append(want, sym(0, esi, "a"))
	}
	want = append(want, two[100:128]...)
	if show(got) != show(want) {
		t.Error(show(got))
	}
}

func TestListsAreLeftAndAnswersAreNew(t *testing.T) {
	list := []api.Sym{sym(0, 0, "abc"), sym(0, 1, "def"), sym(9, 9, "")}
	got := sift.Symbols(6, 3, list[:2])
	got[0].Data[0] = '?'
	_ = append(got[:1], sym(7, 7, "x"))
	if show(list) != "(0 0 abc)(0 1 def)(9 9 )" {
		t.Error(show(list))
	}
}
