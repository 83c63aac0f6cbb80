package sha_test

import (
	"bytes"
	"crypto/sha256"
	"encoding/hex"
	"math/rand"
	"testing"

	"rill/sha"
)

// digest is another program's.
func digest(message []byte) []byte {
	sum := sha256.Sum256(message)
	return sum[:]
}

func message(length int) []byte {
	b := make([]byte, length)
	rand.New(rand.NewSource(int64(length))).Read(b)
	return b
}

func TestExamples(t *testing.T) {
	for _, c := range []struct {
		parts []string
		want  string
	}{
		{[]string{"abc"}, "ba7816bf8f01cfea414140de5dae2223b00361a396177a9cb410ff61f20015ad"},
		{[]string{"a", "bc"}, "ba7816bf8f01cfea414140de5dae2223b00361a396177a9cb410ff61f20015ad"},
		{nil, "e3b0c44298fc1c149afbf4c8996fb92427ae41e4649b934ca495991b7852b855"},
		{[]string{"", ""}, "e3b0c44298fc1c149afbf4c8996fb92427ae41e4649b934ca495991b7852b855"},
		{[]string{"abcdbcdecdefdefgefghfghighijhijkijkljklmklmnlmnomnopnopq"}, "248d6a61d20638b8e5c026930c3e6039a33ce45964ff2167f6ecedd419db06c1"},
	} {
		var parts [][]byte
		for _, part := range c.parts {
			parts = append(parts, []byte(part))
		}
		if got := hex.EncodeToString(sha.Sum(parts...)); got != c.want {
			t.Errorf("Sum(%q) = %s", c.parts, got)
		}
	}
}

func TestSumOfAllLengths(t *testing.T) {
	for length := 0; length < 300; length++ {
		if got := sha.Sum(message(length)); !bytes.Equal(got, digest(message(length))) {
			t.Errorf("Sum of %d bytes = %x", length, got)
		}
	}
	for _, length := range []int{1 << 12, 1<<16 - 9, 1<<16 + 55, 1 << 20} {
		if got := sha.Sum(message(length)); !bytes.Equal(got, digest(message(length))) {
			t.Errorf("Sum of %d bytes = %x", length, got)
		}
	}
}

func TestSumOfParts(t *testing.T) {
	r := rand.New(rand.NewSource(1))
	for round := 0; round < 300; round++ {
		whole := message(r.Intn(400))
		rest := whole
		var parts [][]byte
		for len(rest) > 0 {
			n := min(r.Intn(130), len(rest))
			parts = append(parts, rest[:n])
			rest = rest[n:]
		}
		if got := sha.Sum(append(parts, nil)...); !bytes.Equal(got, digest(whole)) {
			t.Fatalf("Sum of %d bytes in %d parts = %x", len(whole), len(parts), got)
		}
	}
}

func TestSame(t *testing.T) {
	a := message(32)
	if !sha.Same(a, bytes.Clone(a)) || !sha.Same(a, a) || !sha.Same(make([]byte, 32), make([]byte, 32)) {
		t.Error("the same")
	}
	for bit := 0; bit < 256; bit++ {
		b := bytes.Clone(a)
		b[bit/8] ^= 1 << (bit % 8)
		if sha.Same(a, b) || sha.Same(b, a) {
			t.Error("others, by the bit", bit)
		}
	}
	for _, n := range []int{0, 1, 31, 33, 64} {
		if sha.Same(message(n), message(n)) || sha.Same(a, message(n)) || sha.Same(message(n), a) {
			t.Error("digests of the length", n)
		}
	}
	if sha.Same(nil, nil) || sha.Same(a, nil) || sha.Same(nil, a) || sha.Same(a, a[:31]) || sha.Same(append(bytes.Clone(a), 0), a) {
		t.Error("no digests")
	}
}

func TestPartsAreLeftAndAnswersAreNew(t *testing.T) {
	room := []byte("abc-behind")
	parts := [][]byte{room[:1], room[1:3], room[3:]}
	first := sha.Sum(parts[:2]...)
	for i := range first[:cap(first)] {
		first[:cap(first)][i] = 7
	}
	if got := sha.Sum(parts[:2]...); !bytes.Equal(got, digest([]byte("abc"))) {
		t.Errorf("Sum once more: %x", got)
	}
	if string(room) != "abc-behind" || len(parts) != 3 || string(parts[2]) != "-behind" {
		t.Errorf("what was handed in has changed: %q, %q", room, parts)
	}
}
