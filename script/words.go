package script

import (
	"iter"
	"strconv"
	"strings"

	"rill/api"
)

// word is a word of a line, and what of a step it says.
type word interface {
	// read: the step has what the text says; false, if it isn't such a word.
	read(text string, s *api.Step) bool
	say(s *api.Step) string
}

// number is a whole number, for the field that its function finds.
type number struct{ field func(*api.Step) *int }

func (w number) read(text string, s *api.Step) bool {
	n, right := numberOf(text)
	*w.field(s) = n
	return right
}

func (w number) say(s *api.Step) string { return strconv.Itoa(*w.field(s)) }

// maxDigits is how many digits a number has, at most.
const maxDigits = 9

// numberOf: a number without needless signs or noughts.
func numberOf(text string) (int, bool) {
	if text == "0" {
		return 0, true
	}
	digits := strings.TrimPrefix(text, "-")
	if len(digits) < 1 || len(digits) > maxDigits || digits[0] == '0' || strings.Trim(digits, "0123456789") != "" {
		return 0, false
	}
	n, err := strconv.Atoi(text)
	return n, err == nil
}

// key is a key of bytes that can be seen.
type key struct{}

func (key) read(text string, s *api.Step) bool {
	s.Key = text
	return len(text) <= api.MaxKey && len(text) > 0 && !hasOther(text, '!', '~')
}

func (key) say(s *api.Step) string { return s.Key }

// hasOther: is there another byte than those from the first one to the last one?
func hasOther(text string, first, last byte) bool {
	for i := range len(text) {
		if text[i] < first || text[i] > last {
			return true
		}
	}
	return false
}

// value is a value's bytes, two digits each.
type value struct{}

func (value) read(text string, s *api.Step) bool {
	if len(text)%2 != 0 || len(text) < 2 || len(text) > 2*api.MaxValue {
		return false
	}
	for pair := range pairs(text) {
		high, low := strings.IndexByte(hexDigits, pair[0]), strings.IndexByte(hexDigits, pair[1])
		if high < 0 || low < 0 {
			return false
		}
		s.Value = append(s.Value, byte(high<<4|low))
	}
	return true
}

func (value) say(s *api.Step) string { return hex(s.Value) }

// hexDigits are those of bytes, by their weights.
const hexDigits = "0123456789abcdef"

// pairs are the text's bytes, two by two.
func pairs(text string) iter.Seq[string] {
	return func(yield func(string) bool) {
		for i := 0; i+2 <= len(text); i += 2 {
			if !yield(text[i : i+2]) {
				return
			}
		}
	}
}

func hex(b []byte) string {
	text := make([]byte, 0, 2*len(b))
	for _, c := range b {
		text = append(text, hexDigits[c>>4], hexDigits[c&15])
	}
	return string(text)
}

// reset is whether a log that was laid anew counts.
type reset struct{}

func (reset) read(text string, s *api.Step) bool {
	s.Fate.Reset = text == "yes"
	return text == "yes" || text == "no"
}

func (reset) say(s *api.Step) string {
	if s.Fate.Reset {
		return "yes"
	}
	return "no"
}
