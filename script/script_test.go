package script_test

import (
	"bytes"
	"encoding/hex"
	"fmt"
	"math"
	"math/rand"
	"regexp"
	"slices"
	"strings"
	"testing"

	"rill/api"
	"rill/script"
	"rill/world"
)

func one() api.Config {
	return api.Config{Nodes: 1, Write: 1, Read: 1, Clients: 1, T: 4, Slots: 50}
}

func three() api.Config {
	return api.Config{Nodes: 3, Write: 2, Read: 2, Clients: 2, T: 4, Slots: 50}
}

// showStep: nil lists and empty ones are the same.
func showStep(s api.Step) string {
	return fmt.Sprintf("%d %d %d %d %d %q %x %d %v %v", s.Kind, s.Client, s.Node, s.N, s.M, s.Key, s.Value, s.Fate.Keep, s.Fate.Reset, append([]int{}, s.Fate.Slots...))
}

func showSteps(ss []api.Step) string {
	text := ""
	for _, s := range ss {
		text += showStep(s) + "\n"
	}
	return text
}

// said are lines as Show says them, with their steps.
var said = []struct {
	line string
	step api.Step
}{
	{"put 0 k 616263", api.Step{Kind: api.StepPut, Key: "k", Value: []byte("abc")}},
	{"put -3 !~#\"k 00ff09af", api.Step{Kind: api.StepPut, Client: -3, Key: "!~#\"k", Value: []byte("\x00\xff\x09\xaf")}},
	{"get 3 " + strings.Repeat("k", 32), api.Step{Kind: api.StepGet, Client: 3, Key: strings.Repeat("k", 32)}},
	{"delete 999999999 -", api.Step{Kind: api.StepDelete, Client: 999999999, Key: "-"}},
	{"list -999999999", api.Step{Kind: api.StepList, Client: -999999999}},
	{"quit 1", api.Step{Kind: api.StepQuit, Client: 1}},
	{"again 2", api.Step{Kind: api.StepAgain, Client: 2}},
	{"deliver 399", api.Step{Kind: api.StepDeliver, N: 399}},
	{"lose -1", api.Step{Kind: api.StepLose, N: -1}},
	{"double 10", api.Step{Kind: api.StepDouble, N: 10}},
	{"crash 1 -1 5 yes 0 2", api.Step{Kind: api.StepCrash, Node: 1, N: -1, Fate: api.Fate{Keep: 5, Reset: true, Slots: []int{0, 2}}}},
	{"crash 0 0 0 no", api.Step{Kind: api.StepCrash}},
	{"crash -7 12 -5 no -4 999999999 -999999999", api.Step{Kind: api.StepCrash, Node: -7, N: 12, Fate: api.Fate{Keep: -5, Slots: []int{-4, 999999999, -999999999}}}},
	{"wipe 4", api.Step{Kind: api.StepWipe, Node: 4}},
	{"rot 1 2 3", api.Step{Kind: api.StepRot, Node: 1, N: 2, M: 3}},
	{"scrub 5", api.Step{Kind: api.StepScrub, Node: 5}},
	{"mend 6 k", api.Step{Kind: api.StepMend, Node: 6, Key: "k"}},
	{"put 1 put " + strings.Repeat("5a", 1024), api.Step{Kind: api.StepPut, Client: 1, Key: "put", Value: bytes.Repeat([]byte("Z"), 1024)}},
}

func TestLinesAndTheirSteps(t *testing.T) {
	var text string
	var steps []api.Step
	for _, c := range said {
		got, line, err := script.Parse(c.line)
		if err != api.OK || line != 0 || showSteps(got) != showSteps([]api.Step{c.step}) {
			t.Errorf("Parse(%q): %s, %d, %v", c.line, showSteps(got), line, err)
		}
		if got, err := script.Show(c.step); err != api.OK || got != c.line+"\n" {
			t.Errorf("Show(%s): %q, %v", showStep(c.step), got, err)
		}
		text += c.line + "\n"
		steps = append(steps, c.step)
	}
	if got, line, err := script.Parse(text); err != api.OK || line != 0 || showSteps(got) != showSteps(steps) {
		t.Error("Parse of all", showSteps(got), line, err)
	}
	if got, err := script.Show(steps...); err != api.OK || got != text {
		t.Errorf("Show of all: %q, %v", got, err)
	}
	if got, err := script.Show(); err != api.OK || got != "" {
		t.Errorf("Show of nothing: %q, %v", got, err)
	}
}

func TestTextsAndTheirLines(t *testing.T) {
	quit, list := api.Step{Kind: api.StepQuit}, api.Step{Kind: api.StepList, Client: 1}
	for _, c := range []struct {
		text string
		want []api.Step
	}{
		{"", nil},
		{"\n", nil},
		{"\n\n\n", nil},
		{"   ", nil},
		{"#", nil},
		{"# put", nil},
		{"  #put 0\n#\n  # # \n", nil},
		{"quit 0", []api.Step{quit}},
		{"quit 0\n", []api.Step{quit}},
		{"\nquit 0\n\n  list    1   \n#list 2\n", []api.Step{quit, list}},
		{"   quit 0\nquit 0   ", []api.Step{quit, quit}},
		{"get 0 #", []api.Step{{Kind: api.StepGet, Key: "#"}}},
	} {
		if got, line, err := script.Parse(c.text); err != api.OK || line != 0 || showSteps(got) != showSteps(c.want) {
			t.Errorf("Parse(%q): %s, %d, %v", c.text, showSteps(got), line, err)
		}
	}
}

func TestWrongLines(t *testing.T) {
	var wrong []string
	numbers := []string{"", "-", "-0", "00", "01", "-01", "+1", "1.0", "1e3", "a", "0x1", "1-", "--1", "1000000000", "-1000000000", "12345678901234567890", "٣", "1_0", "1\t", "0\r"}
	for _, n := range numbers {
		for _, line := range []string{"put %s k 61", "get %s k", "delete %s k", "list %s", "quit %s", "again %s", "deliver %s", "lose %s", "double %s", "crash %s 0 0 no", "crash 0 %s 0 no", "crash 0 0 %s no 1", "wipe %s", "rot %s 0 0", "rot 0 %s 0", "rot 0 0 %s", "scrub %s", "mend %s k"} {
			wrong = append(wrong, fmt.Sprintf(line, n))
		}
		if n != "" {
			wrong = append(wrong, "crash 0 0 0 no "+n, "crash 0 0 0 yes 1 "+n+" 1")
		}
	}
	for _, k := range []string{strings.Repeat("k", 33), "k\x7f", "\x1fk", "k\t", "\r", "ä", "\x80", "\xff", "\x00", "a\vb"} {
		wrong = append(wrong, "put 0 "+k+" 61", "get 0 "+k, "delete 0 "+k, "mend 0 "+k)
	}
	for _, h := range []string{"", "6", "616", "6g", "g6", "6A", "A6", "6-", "-61", "0x61", "6\x00", "ä", "61\r", "6/", "6:", "6`", strings.Repeat("61", 1025), strings.Repeat("6", 2047), strings.Repeat("6", 2049)} {
		wrong = append(wrong, "put 0 k "+h)
	}
	for _, r := range []string{"", "Yes", "y", "true", "1", "0", "yesno", "NO"} {
		wrong = append(wrong, "crash 0 0 0 "+r)
	}
	for _, c := range said {
		words := strings.Fields(c.line)
		if words[0] != "crash" {
			wrong = append(wrong, c.line+" 0", c.line+" x")
		}
		for n := 1; n < len(words) && (words[0] != "crash" || n < 5); n++ {
			wrong = append(wrong, strings.Join(words[:n], " "))
		}
		wrong = append(wrong, strings.ToUpper(words[0])+strings.TrimPrefix(c.line, words[0]), words[0]+"s"+strings.TrimPrefix(c.line, words[0]), strings.Replace(c.line, " ", "\t", 1), "\t"+c.line, c.line+"\r", c.line+"\t")
	}
	wrong = append(wrong, "0", "x", "\r", "\t", "put", "- 0", "\xff", "\x00", "quit#0", "a # b", "puts", "pu", "\u00a0#")
	for _, line := range wrong {
		for ahead, text := range []string{line, "quit 0\n" + line, "\n# nothing\n" + line + "\nx\n"} {
			if steps, n, err := script.Parse(text); err != api.ErrLine || n != ahead+1 || len(steps) != 0 {
				t.Errorf("Parse(%q): %s, %d, %v", text, showSteps(steps), n, err)
			}
		}
	}
}

func TestHowManyLines(t *testing.T) {
	for _, c := range []struct {
		text  string
		steps int
		line  int
		err   api.Errno
	}{
		{strings.Repeat("quit 0\n", 500), 500, 0, api.OK},
		{strings.Repeat("quit 0\n", 499) + "quit 0", 500, 0, api.OK},
		{strings.Repeat("\n", 500), 0, 0, api.OK},
		{strings.Repeat("\n", 499) + "x", 0, 500, api.ErrLine},
		{strings.Repeat("\n", 500) + "x", 0, 0, api.ErrMany},
		{strings.Repeat("\n", 501), 0, 0, api.ErrMany},
		{strings.Repeat("quit 0\n", 501), 0, 0, api.ErrMany},
		{strings.Repeat("quit 0\n", 500) + " ", 0, 0, api.ErrMany},
		{"x\n" + strings.Repeat("#\n", 500), 0, 0, api.ErrMany},
		{"x\n" + strings.Repeat("#\n", 499), 0, 1, api.ErrLine},
	} {
		if steps, line, err := script.Parse(c.text); len(steps) != c.steps || line != c.line || err != c.err {
			t.Errorf("Parse of %d bytes: %d, %d, %v", len(c.text), len(steps), line, err)
		}
	}
	quit := api.Step{Kind: api.StepQuit}
	if text, err := script.Show(slices.Repeat([]api.Step{quit}, 500)...); err != api.OK || len(text) != 3500 {
		t.Error("Show of 500 steps", len(text), err)
	}
	if text, err := script.Show(slices.Repeat([]api.Step{quit}, 501)...); err != api.ErrStep || text != "" {
		t.Error("Show of 501 steps", len(text), err)
	}
}

func TestShowOfWhatCannotBeSaid(t *testing.T) {
	refused := func(s api.Step) {
		t.Helper()
		for _, ss := range [][]api.Step{{s}, {{Kind: api.StepQuit}, s, {Kind: api.StepQuit}}} {
			if text, err := script.Show(ss...); err != api.ErrStep || text != "" {
				t.Errorf("Show(%s): %q, %v", showStep(s), text, err)
			}
		}
	}
	for _, kind := range []int{0, -1, 15, math.MinInt64, math.MaxInt64} {
		refused(api.Step{Kind: kind})
	}
	set := []func(*api.Step){
		func(s *api.Step) { s.Client = 1 },
		func(s *api.Step) { s.Node = 1 },
		func(s *api.Step) { s.N = 1 },
		func(s *api.Step) { s.M = 1 },
		func(s *api.Step) { s.Key = "j" },
		func(s *api.Step) { s.Value = []byte("j") },
		func(s *api.Step) { s.Fate.Keep = 1 },
		func(s *api.Step) { s.Fate.Reset = true },
		func(s *api.Step) { s.Fate.Slots = []int{0} },
	}
	uses := map[int]string{ // which of these a step has a use for
		api.StepPut: "045", api.StepGet: "04", api.StepDelete: "04", api.StepList: "0", api.StepQuit: "0", api.StepAgain: "0",
		api.StepDeliver: "2", api.StepLose: "2", api.StepDouble: "2", api.StepCrash: "12678", api.StepWipe: "1", api.StepRot: "123", api.StepScrub: "1", api.StepMend: "14",
	}
	for kind := api.StepPut; kind <= api.StepMend; kind++ {
		plain := api.Step{Kind: kind}
		if strings.Contains(uses[kind], "4") {
			plain.Key = "k"
		}
		if strings.Contains(uses[kind], "5") {
			plain.Value = []byte("v")
		}
		if text, err := script.Show(plain); err != api.OK || text == "" {
			t.Errorf("Show(%s): %q, %v", showStep(plain), text, err)
		}
		for i, f := range set {
			s := plain
			f(&s)
			if !strings.Contains(uses[kind], fmt.Sprint(i)) {
				refused(s)
				continue
			}
			text, err := script.Show(s)
			back, _, _ := script.Parse(text)
			if err != api.OK || showSteps(back) != showSteps([]api.Step{s}) {
				t.Errorf("Show(%s): %q, %v", showStep(s), text, err)
			}
		}
		for _, n := range []int{1000000000, -1000000000, math.MinInt64, math.MaxInt64} {
			for i, f := range []func(*api.Step){
				func(s *api.Step) { s.Client = n },
				func(s *api.Step) { s.Node = n },
				func(s *api.Step) { s.N = n },
				func(s *api.Step) { s.M = n },
				func(s *api.Step) { s.Fate.Keep = n },
				func(s *api.Step) { s.Fate.Slots = []int{0, n} },
			} {
				_ = i
				s := plain
				f(&s)
				refused(s)
			}
		}
		if plain.Key != "" {
			for _, key := range []string{"", strings.Repeat("k", 33), " ", "a b", "k ", " k", "k\n", "\n", "k\x7f", "k\x1f", "ä", "k 61", "k\nquit 0"} {
				s := plain
				s.Key = key
				refused(s)
			}
		}
	}
	refused(api.Step{Kind: api.StepPut, Key: "k"})
	refused(api.Step{Kind: api.StepPut, Key: "k 61"})
	refused(api.Step{Kind: api.StepPut, Key: "k", Value: make([]byte, 1025)})
}

func TestTell(t *testing.T) {
	found := api.Result{Found: true, Value: []byte("abc")}
	for _, c := range []struct {
		act  api.Act
		want string
	}{
		{api.Act{Do: api.DoPut, Key: "k", Value: []byte("abc"), End: 6}, "put client 0 6b 616263 from 0 to 6 done"},
		{api.Act{Do: api.DoPut, Key: "k", Value: []byte("abc"), End: -1, Result: api.Result{Code: 7}}, "put client 0 6b 616263 from 0 open"},
		{api.Act{Do: api.DoPut, Client: 3, Start: 12, End: 12, Result: api.Result{Code: api.ErrFull}}, "put client 3 - - from 12 to 12 error 100"},
		{api.Act{Do: api.DoPut, Key: "\x00\xff ", Value: []byte{9}, End: 0, Result: found}, "put client 0 00ff20 09 from 0 to 0 done"},
		{api.Act{Do: api.DoGet, Key: "k", Value: []byte("x"), Start: 1, End: 2, Result: found}, "get client 0 6b from 1 to 2 found 616263"},
		{api.Act{Do: api.DoGet, Key: "k", Start: 1, End: 2, Result: api.Result{Found: true}}, "get client 0 6b from 1 to 2 found -"},
		{api.Act{Do: api.DoGet, Key: "k", Start: 1, End: 2, Result: api.Result{Value: []byte("x")}}, "get client 0 6b from 1 to 2 none"},
		{api.Act{Do: api.DoGet, Key: "", Start: 1, End: 2, Result: api.Result{Found: true, Code: api.ErrRank}}, "get client 0 - from 1 to 2 error 21"},
		{api.Act{Do: api.DoGet, Key: "k", Start: 1, End: math.MinInt64, Result: found}, "get client 0 6b from 1 open"},
		{api.Act{Do: api.DoDelete, Key: "k", Value: []byte("x"), Client: 1, Start: 5, End: 8, Result: found}, "delete client 1 6b from 5 to 8 done"},
		{api.Act{Do: api.DoDelete, Key: "k", Client: 1, Start: 5, End: 8, Result: api.Result{Code: -3}}, "delete client 1 6b from 5 to 8 error -3"},
		{api.Act{Do: api.DoList, Key: "k", Value: []byte("x"), Start: 5, End: 8}, "list client 0 from 5 to 8 keys"},
		{api.Act{Do: api.DoList, Start: 5, End: 8, Result: api.Result{Keys: []string{"a", "", "\xff\x00"}}}, "list client 0 from 5 to 8 keys 61 - ff00"},
		{api.Act{Do: api.DoList, Start: 5, End: 8, Result: api.Result{Code: 1, Keys: []string{"a"}}}, "list client 0 from 5 to 8 error 1"},
		{api.Act{Do: api.DoList, Start: 5, End: -1}, "list client 0 from 5 open"},
		{api.Act{Do: 0, Key: "k", Value: []byte("x"), End: 1, Result: found}, "? client 0 6b from 0 to 1 done"},
		{api.Act{Do: 5, Client: -9, Start: math.MinInt64, End: math.MaxInt64}, "? client -9 - from -9223372036854775808 to 9223372036854775807 done"},
		{api.Act{Do: math.MaxInt64, Client: math.MaxInt64, Start: -1, End: -1}, "? client 9223372036854775807 - from -1 open"},
		{api.Act{Do: -1, Key: "k", End: 1, Result: api.Result{Code: 200}}, "? client 0 6b from 0 to 1 error 200"},
	} {
		if got := script.Tell(c.act); got != c.want {
			t.Errorf("Tell(%+v) = %q, not %q", c.act, got, c.want)
		}
	}
	long := strings.Repeat("\xab", 5000)
	if got := script.Tell(api.Act{Do: api.DoPut, Key: long, Value: []byte(long), End: -1}); got != "put client 0 "+hex.EncodeToString([]byte(long))+" "+hex.EncodeToString([]byte(long))+" from 0 open" {
		t.Error("Tell of much", len(got))
	}
}

func TestRun(t *testing.T) {
	text := "put 0 k 616263\n" + strings.Repeat("deliver 0\n", 6)
	lines, line, err := script.Run(one(), text)
	if err != api.OK || line != 0 || !slices.Equal(lines, []string{"put client 0 6b 616263 from 0 to 6 done"}) {
		t.Errorf("the document's example: %q, %d, %v", lines, line, err)
	}
	all := "# a comment is no step\n" + text + "get 0 j\n\ndeliver 0\ndeliver 0\nlist 0\ndeliver 0\ndeliver 0\ndelete 5 k\ndelete 0 k\nquit 0\nget 0 k"
	lines, line, err = script.Run(one(), all)
	want := []string{
		"put client 0 6b 616263 from 0 to 6 done",
		"get client 0 6a from 7 to 9 none",
		"list client 0 from 10 to 12 keys 6b",
		"delete client 0 6b from 14 open",
		"get client 0 6b from 16 open",
	}
	if err != api.OK || line != 0 || !slices.Equal(lines, want) {
		t.Errorf("Run: %q, %d, %v", lines, line, err)
	}
	if lines, line, err := script.Run(one(), ""); err != api.OK || line != 0 || len(lines) != 0 {
		t.Errorf("Run of nothing: %q, %d, %v", lines, line, err)
	}
}

func TestErrorsOfRun(t *testing.T) {
	for i, c := range []struct {
		c    api.Config
		text string
		line int
		err  api.Errno
	}{
		{api.Config{}, "", 0, api.ErrConfig},
		{api.Config{}, "quit 0", 0, api.ErrConfig},
		{api.Config{}, "quit 0\nx", 2, api.ErrLine},
		{one(), "quit 0\n\nput 0 k 6", 3, api.ErrLine},
		{api.Config{}, strings.Repeat("\n", 501), 0, api.ErrMany},
		{one(), strings.Repeat("\n", 501), 0, api.ErrMany},
	} {
		if lines, line, err := script.Run(c.c, c.text); err != c.err || line != c.line || len(lines) != 0 {
			t.Errorf("case %d: %q, %d, %v", i, lines, line, err)
		}
	}
}

// TestWorldsAsTexts: what a world plays and what Run tells of its text is the same.
func TestWorldsAsTexts(t *testing.T) {
	r := rand.New(rand.NewSource(1))
	kinds := map[string]int{}
	for range 40 {
		var steps []api.Step
		for range 500 {
			client, node, key := r.Intn(3), r.Intn(4)-r.Intn(2), []string{"a", "b", "#"}[r.Intn(3)]
			s := api.Step{Kind: api.StepDeliver, N: r.Intn(8)}
			switch r.Intn(25) {
			case 0:
				s = api.Step{Kind: api.StepPut, Client: client, Key: key, Value: []byte(fmt.Sprint(r.Intn(1000)))}
			case 1:
				s = api.Step{Kind: api.StepGet + r.Intn(2), Client: client, Key: key}
			case 2:
				s = api.Step{Kind: api.StepList + r.Intn(3), Client: client}
			case 3:
				s = api.Step{Kind: api.StepLose + r.Intn(2), N: r.Intn(8)}
			case 4:
				s = api.Step{Kind: api.StepCrash, Node: node, N: r.Intn(60) - 40, Fate: api.Fate{Keep: r.Intn(200), Reset: r.Intn(2) == 0, Slots: []int{r.Intn(3)}[:r.Intn(2)]}}
			case 5:
				s = api.Step{Kind: api.StepRot, Node: node, N: r.Intn(9), M: r.Intn(30)}
			case 6:
				s = api.Step{Kind: api.StepMend, Node: node, Key: key}
			case 7:
				s = api.Step{Kind: []int{api.StepScrub, api.StepWipe}[r.Intn(2)], Node: node}
			}
			steps = append(steps, s)
		}
		text, err := script.Show(steps...)
		if err != api.OK {
			t.Fatal("Show:", err)
		}
		back, _, _ := script.Parse(text)
		if showSteps(back) != showSteps(steps) {
			t.Fatalf("Parse of %q", text)
		}
		w, _ := world.New(three())
		w.Play(steps...)
		var want []string
		for _, a := range w.Acts() {
			want = append(want, script.Tell(a))
			kinds[regexp.MustCompile("[0-9a-f]{2,}|[0-9]+").ReplaceAllString(script.Tell(a), "N")]++
		}
		lines, line, err := script.Run(three(), text)
		if err != api.OK || line != 0 || !slices.Equal(lines, want) {
			t.Fatalf("Run of %q: %q", text, lines)
		}
	}
	if len(kinds) < 8 {
		t.Error("the sweep is one-sided", kinds)
	}
}

func TestStepsAreLeftAndAnswersAreNew(t *testing.T) {
	steps := []api.Step{
		{Kind: api.StepPut, Key: "k", Value: []byte("abc-behind")[:3]},
		{Kind: api.StepCrash, Fate: api.Fate{Slots: []int{1, 2, 99}[:2]}},
		{Kind: 77},
	}
	before := showSteps(steps) + string(steps[0].Value[:10]) + fmt.Sprint(steps[1].Fate.Slots[:3])
	text, err := script.Show(steps[:2]...)
	if err != api.OK || text != "put 0 k 616263\ncrash 0 0 0 no 1 2\n" {
		t.Errorf("%q, %v", text, err)
	}
	a := api.Act{Do: api.DoGet, Key: "k", Value: []byte("v"), Result: api.Result{Found: true, Value: []byte("w"), Keys: []string{"z"}}}
	script.Tell(a)
	if showSteps(steps)+string(steps[0].Value[:10])+fmt.Sprint(steps[1].Fate.Slots[:3]) != before || string(a.Result.Value) != "w" || a.Result.Keys[0] != "z" {
		t.Error("what was handed in has changed")
	}
	first, _, _ := script.Parse(text + text)
	second, _, _ := script.Parse(text)
	for _, s := range first {
		s.Value = s.Value[:cap(s.Value)]
		for i := range s.Value {
			s.Value[i] = '?'
		}
		for i := range s.Fate.Slots[:cap(s.Fate.Slots)] {
			s.Fate.Slots[:cap(s.Fate.Slots)][i] = 77
		}
		if showSteps(second) != showSteps(steps[:2]) {
			t.Error("two answers share memory")
		}
	}
	third, _, _ := script.Parse(text + text)
	third[0].Value[0] = '?'
	third[1].Fate.Slots[0] = 77
	if showSteps(third[2:]) != showSteps(steps[:2]) {
		t.Error("two lists of one answer share memory")
	}
}
