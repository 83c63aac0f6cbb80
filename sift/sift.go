// Package sift picks those of many symbols that can help to give back a value.
package sift

import (
	"slices"

	"rill/api"
	"rill/chunk"
)

// maxPieces is how many symbols of a block count: more can't be decoded in one go.
const maxPieces = 128

// at is which symbol it is.
type at struct{ block, esi int }

// Symbols are those of the lists, one after the other, that can be symbols of a value of that size with symbols of t bytes:
// of each block the first ones, and of those that were met before the first one. They are copies.
func Symbols(size, t int, lists ...[]api.Sym) []api.Sym {
	parts, err := chunk.Parts(size, t)
	if err != api.OK {
		return nil
	}
	var picked []api.Sym
	met := map[at]int{}
	count := make([]int, len(parts))
	for _, sym := range slices.Concat(lists...) {
		if !fits(sym, len(parts), t) || count[sym.Block] == maxPieces || met[at{sym.Block, sym.Esi}] > 0 {
			continue
		}
		met[at{sym.Block, sym.Esi}]++
		count[sym.Block]++
		sym.Data = slices.Clone(sym.Data)
		picked = append(picked, sym)
	}
	return picked
}

func fits(sym api.Sym, blocks, t int) bool {
	return sym.Block >= 0 && sym.Block < blocks && sym.Esi >= 0 && sym.Esi < api.MaxEsi && len(sym.Data) == t
}
