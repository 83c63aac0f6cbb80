// Package gf is layer 1: the field of 256 elements, and lists of its elements.
package gf

import "rill/api"

const (
	// powers is how many powers of 2 there are before they begin again.
	powers = 255
	// fold is what x^8 is equal to: the modulus without its highest bit.
	fold = 285 - 256
)

// Mul: the product.
func Mul(a, b byte) byte {
	var product byte
	for i := range 8 {
		if b>>i&1 == 1 {
			product ^= a
		}
		a = double(a)
	}
	return product
}

func double(a byte) byte {
	if a < 128 {
		return a << 1
	}
	return a<<1 ^ fold
}

// Exp: a power of 2.
func Exp(n int) byte {
	n %= powers
	if n < 0 {
		n += powers
	}
	power := byte(1)
	for range n {
		power = double(power)
	}
	return power
}

// Log: of which power of 2 it is.
func Log(a byte) (int, api.Errno) {
	if a == 0 {
		return 0, api.ErrZero
	}
	n := 0
	for power := byte(1); power != a; power = double(power) {
		n++
	}
	return n, api.OK
}

// Inv: 1 by a.
func Inv(a byte) (byte, api.Errno) {
	n, err := Log(a)
	if err != api.OK {
		return 0, err
	}
	return Exp(-n), api.OK
}

// Add: the sum of lists.
func Add(a, b []byte) []byte { return Mix([]byte{1, 1}, a, b) }

// Scale: each element times k.
func Scale(k byte, a []byte) []byte { return Mix([]byte{k}, a) }

// Mix: the sum of lists, each scaled.
func Mix(ks []byte, vs ...[]byte) []byte {
	longest := 0
	for _, v := range vs {
		longest = max(longest, len(v))
	}
	sum := make([]byte, longest)
	for i, v := range vs {
		if i < len(ks) {
			addScaled(sum, ks[i], v)
		}
	}
	return sum
}

// addScaled adds k times v to the beginning of sum, which is as long as v at least.
// A product is looked up by the halves of an element, since lists are far longer than the two tables.
func addScaled(sum []byte, k byte, v []byte) {
	if k == 0 {
		return
	}
	low, high := multiples(k), multiples(Mul(k, 16))
	for i, a := range v {
		sum[i] ^= low[a&15] ^ high[a>>4]
	}
}

// multiples: k times each of the elements 0 to 15.
func multiples(k byte) [16]byte {
	var of [16]byte
	for i := 1; i < len(of); i++ {
		of[i] = double(of[i/2])
		if i%2 == 1 {
			of[i] ^= k
		}
	}
	return of
}
