package script

import (
	"strconv"
	"strings"

	"rill/api"
)

// Tell: what a client did, in words.
func Tell(a api.Act) string {
	words := []string{nameOf(a.Do), "client", strconv.Itoa(a.Client)}
	if a.Do != api.DoList {
		words = append(words, visible([]byte(a.Key)))
	}
	if a.Do == api.DoPut {
		words = append(words, visible(a.Value))
	}
	words = append(words, "from", strconv.Itoa(a.Start))
	if a.End < 0 {
		words = append(words, "open")
	} else {
		words = append(words, "to", strconv.Itoa(a.End))
		words = append(words, ending(a)...)
	}
	return strings.Join(words, " ")
}

func nameOf(do int) string {
	switch do {
	case api.DoPut:
		return "put"
	case api.DoGet:
		return "get"
	case api.DoDelete:
		return "delete"
	case api.DoList:
		return "list"
	}
	return "?"
}

// visible: the bytes in digits; a word too, where there are none.
func visible(b []byte) string {
	if len(b) == 0 {
		return "-"
	}
	return hex(b)
}

// ending: how the act has ended.
func ending(a api.Act) []string {
	if a.Result.Code != api.OK {
		return []string{"error", strconv.Itoa(int(a.Result.Code))}
	}
	switch a.Do {
	case api.DoGet:
		if a.Result.Found {
			return []string{"found", visible(a.Result.Value)}
		}
		return []string{"none"}
	case api.DoList:
		words := []string{"keys"}
		for _, k := range a.Result.Keys {
			words = append(words, visible([]byte(k)))
		}
		return words
	}
	return []string{"done"}
}
