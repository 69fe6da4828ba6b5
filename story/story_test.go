package story_test

import (
	"bytes"
	"math"
	"math/rand"
	"regexp"
	"slices"
	"strconv"
	"strings"
	"testing"
	"unicode/utf8"

	"claviger/api"
	"claviger/cohort"
	"claviger/story"
)

func sameStep(a, b cohort.Step) bool {
	x, y := a.Item, b.Item
	q, r := x.Request, y.Request
	return a.Pin == b.Pin && a.Owner == b.Owner && x.Kind == y.Kind && x.Member == y.Member && x.Client == y.Client && x.N == y.N && x.Shard == y.Shard && x.To == y.To && x.Torn == y.Torn && bytes.Equal(x.Bytes, y.Bytes) &&
		q.Op == r.Op && q.ID == r.ID && q.Pin == r.Pin && bytes.Equal(q.Secret, r.Secret) && q.Limit == r.Limit && q.Owner == r.Owner && q.Key == r.Key && q.Client == r.Client && q.Num == r.Num
}

// P28.1.
func TestQuote(t *testing.T) {
	for s, want := range map[string]string{
		"": `""`, " ": `" "`, "a": `"a"`, `"`: `"\""`, `\`: `"\\"`, "\n": `"\n"`, "a\nb": `"a\nb"`, `\n`: `"\\n"`, "\t\r\x00": "\"\t\r\x00\"", "\xff": "\"\ufffd\"", "a\xe2\x82": "\"a\ufffd\ufffd\"",
		"\ufffd": "\"\ufffd\"", "\u2028\u20ac": "\"\u2028\u20ac\"", `""\\`: `"\"\"\\\\"`, "\u00a0'": "\"\u00a0'\"",
	} {
		if got := story.Quote(s); got != want {
			t.Errorf("Quote(%q): %s; must be %s", s, got, want)
		}
		back, ok := story.Unquote(want)
		if clean := string([]rune(s)); !ok || back != clean {
			t.Errorf("Unquote(%s): %q, %v; must be %q", want, back, ok, clean)
		}
	}
	for _, s := range []string{"", `"`, "a", `a"`, `"a`, `"a"b`, `a"b"`, `"a""`, `"\"`, `"\a"`, `"\t"`, `"\`, "\"\n\"", "\"\xff\"", "\"a\xe2\x82\"", `""""`, ` ""`, `"" `, `'a'`, "`a`", `"\N"`, `"\u0041"`, `"\\\"`, "\"\\\n\"", "\"\\\xff\""} {
		if got, ok := story.Unquote(s); ok || got != "" {
			t.Errorf("Unquote(%q): %q, %v", s, got, ok)
		}
	}
	q := rand.New(rand.NewSource(28))
	parts := []string{"a", "\"", "\\", "\n", "n", " ", "\u20ac", "\xff", "\\n", "\"\""}
	for range 20000 {
		var b strings.Builder
		for range q.Intn(8) {
			b.WriteString(parts[q.Intn(len(parts))])
		}
		s := b.String()
		quoted := story.Quote(s)
		back, ok := story.Unquote(quoted)
		if clean := string([]rune(s)); !ok || back != clean || strings.Contains(quoted, "\n") {
			t.Fatalf("Unquote of Quote(%q): %q, %v", s, back, ok)
		}
		if text, ok := story.Unquote(s); ok && story.Quote(text) != s || !ok && text != "" {
			t.Fatalf("Unquote(%q): %q, %v", s, text, ok)
		}
	}
}

func TestVerbs(t *testing.T) {
	want := strings.Split("ask deliver lose double inject fuse start stop copy swap spoil move again settle", " ")
	story.Verbs()[0] = "x"
	if got := story.Verbs(); !slices.Equal(got, want) {
		t.Errorf("Verbs: %v", got)
	}
}

// said are lines and what they say.
func said() map[string]cohort.Step {
	id := api.ID{1, 0x2a, 0xff, 0}
	it := func(x api.Item) cohort.Step { return cohort.Step{Item: x} }
	ask := func(q api.Request, pin, owner string) cohort.Step {
		return cohort.Step{Item: api.Item{Kind: api.Send, Client: 2, Member: 3, Request: q}, Pin: pin, Owner: owner}
	}
	return map[string]cohort.Step{
		`ask 2 3 escrow 012aff00 5 00ff7a "12 34" "me"`:      ask(api.Request{Op: api.Escrow, ID: id, Limit: 5, Secret: []byte{0, 255, 0x7a}}, "12 34", "me"),
		`ask 2 3 replace 012aff00 65535 - "" "a \"b\" \\\n"`: ask(api.Request{Op: api.Replace, ID: id, Limit: 65535}, "", "a \"b\" \\\n"),
		`ask 2 3 recover 012aff00 "1234"`:                    ask(api.Request{Op: api.Recover, ID: id}, "1234", ""),
		`ask 2 3 remove 012aff00 "me"`:                       ask(api.Request{Op: api.Remove, ID: id}, "", "me"),
		`ask 2 3 remove 00000000 "\u"`:                       {},
		"ask 2 3 recover 012aff00 \"\uff11\u20ac\"":          ask(api.Request{Op: api.Recover, ID: id}, "\uff11\u20ac", ""),
		"deliver 0":                         it(api.Item{Kind: api.Deliver}),
		"deliver 65535":                     it(api.Item{Kind: api.Deliver, N: 65535}),
		"lose 7":                            it(api.Item{Kind: api.Lose, N: 7}),
		"double 10":                         it(api.Item{Kind: api.Double, N: 10}),
		"inject 1 2 3 00a9":                 it(api.Item{Kind: api.Inject, Member: 1, N: 2, To: 3, Bytes: []byte{0, 0xa9}}),
		"inject 65535 0 100 -":              it(api.Item{Kind: api.Inject, Member: 65535, To: 100}),
		"fuse 1 2 3":                        it(api.Item{Kind: api.Fuse, Member: 1, N: 2, Torn: 3}),
		"start 1":                           it(api.Item{Kind: api.Start, Member: 1}),
		"stop 2":                            it(api.Item{Kind: api.Stop, Member: 2}),
		"copy 3":                            it(api.Item{Kind: api.Copy, Member: 3}),
		"swap 4":                            it(api.Item{Kind: api.Swap, Member: 4}),
		"spoil 1 2 3":                       it(api.Item{Kind: api.Spoil, Member: 1, N: 2, Torn: 3}),
		"move 1 2 3":                        it(api.Item{Kind: api.Move, Member: 1, Shard: 2, To: 3}),
		"again 5":                           it(api.Item{Kind: api.Again, Member: 5}),
		"settle":                            it(api.Item{Kind: api.Settle}),
		"inject 0 0 0 " + long("ab", 10000): it(api.Item{Kind: api.Inject, Bytes: bytes.Repeat([]byte{0xab}, 10000)}),
	}
}

func long(s string, n int) string { return strings.Repeat(s, n) }

// P28.2, P28.3: each verb, there and back.
func TestLines(t *testing.T) {
	for text, want := range said() {
		if want.Item.Kind == 0 {
			refuses(t, text+"\n", 0)
			continue
		}
		got, n := story.Parse(text + "\n")
		if n != -1 || len(got) != 1 || !sameStep(got[0], want) {
			t.Errorf("Parse(%.80q): %+v, %d", text, got, n)
		}
		if back, e := story.Print(want); e != api.OK || back != text+"\n" {
			t.Errorf("Print(%+v): %.80q, %d", want, back, e)
		}
	}
}

func refuses(t *testing.T, s string, want int) {
	t.Helper()
	if l, n := story.Parse(s); n != want || len(l) != 0 {
		t.Errorf("Parse(%.200q): %d steps, %d; must be %d", s, len(l), n, want)
	}
}

func TestParseRefuses(t *testing.T) {
	for text, step := range said() {
		refuses(t, text, 0)
		refuses(t, "settle\n"+text, 1)
		if step.Item.Kind == 0 || len(text) > 1000 {
			continue
		}
		refuses(t, "settle\n\n"+text+"\n", 1)
		for _, s := range []string{" " + text, text + " ", text + " 0", text + "\r", text + "\t", strings.Replace(text, " ", "  ", 1) + "x", strings.ToUpper(text), "x" + text, text + "\x00"} {
			refuses(t, s+"\n", 0)
			refuses(t, "start 0\nstop 1\n"+s+"\nnonsense\n", 2)
		}
		for i := range text {
			if strings.Contains(text, `"`) && i > strings.Index(text, `"`) {
				break
			}
			if cut := text[:i]; !slices.Contains([]string{"deliver 6", "deliver 65", "deliver 655", "deliver 6553", "double 1"}, cut) && !strings.HasPrefix(cut, "inject 1 2 3 00") {
				refuses(t, cut+"\n", 0)
			}
		}
		if i := strings.Index(text, " "); i >= 0 {
			refuses(t, text[:i]+" "+text[i:]+"\n", 0)
			refuses(t, text[:i]+"\t"+text[i+1:]+"\n", 0)
			refuses(t, text[:i]+"\u00a0"+text[i+1:]+"\n", 0)
		}
	}
	for _, n := range []string{"", "-", "00", "01", "007", "-1", "+1", "65536", "70000", "100000", "99999999999999999999", "4294967296", "18446744073709551616", "1.0", "1e3", "0x1", "a", "\uff11", "1_0", " 1", "1 ", "/", ":", "1:"} {
		refuses(t, "deliver "+n+"\n", 0)
		refuses(t, "fuse 1 "+n+" 3\n", 0)
		refuses(t, "ask "+n+" 3 recover 00000000 \"\"\n", 0)
		refuses(t, "ask 0 3 escrow 00000000 "+n+" - \"\" \"\"\n", 0)
	}
	for _, b := range []string{"", "0", "000", "0g", "g0", "AB", "aB", "--", "-0", "0x00", "00 ", " 00", "\uff10\uff10", "/0", "0:", "`0", "0G", "@a"} {
		refuses(t, "inject 0 0 0 "+b+"\n", 0)
		refuses(t, "ask 0 0 escrow 00000000 3 "+b+" \"\" \"\"\n", 0)
	}
	for _, id := range []string{"", "-", "00", "000000", "0000000", "000000000", "0000000000", "0000000g", "0000000A", "0x000000"} {
		refuses(t, "ask 0 0 recover "+id+" \"\"\n", 0)
	}
	for _, q := range []string{"", "1234", "'1234'", `"`, `"a`, `a"`, `"a"b`, `"a" `, `"\x"`, "\"\xff\"", `"a" "b" "c"`} {
		refuses(t, "ask 0 0 recover 00000000 "+q+"\n", 0)
		refuses(t, "ask 0 0 remove 00000000 "+q+"\n", 0)
		refuses(t, "ask 0 0 escrow 00000000 3 - \"\" "+q+"\n", 0)
		refuses(t, "ask 0 0 escrow 00000000 3 - "+q+" \"\"\n", 0)
	}
	for _, s := range []string{"\n", " \n", "settle\n\n", "settle\r\n", "# settle\n", "Settle\n", "send 0\n", "escrow 0 0 00000000 3 - \"\" \"\"\n", "ask 0 0 ask 00000000 \"\"\n", "ask 0 0 remov 00000000 \"\"\n", "settle settle\n", "ask 0 0 recover 00000000 \"\" \"\"\n", "ask 0 0 remove 00000000 \"\" \"\"\n", "ask 0 0 escrow 00000000 3 -\n", "ask 0 0 escrow 00000000 3 - \"\"\n", "ask 0 0 escrow 00000000 \"\" \"\"\n", "\xff\n", "\ufeffsettle\n"} {
		refuses(t, s, strings.Count(s, "settle\n\n"))
	}
}

func TestManyLines(t *testing.T) {
	if l, n := story.Parse(""); len(l) != 0 || n != -1 {
		t.Errorf("Parse of nothing: %d, %d", len(l), n)
	}
	for _, n := range []int{1, 2, 199, 200} {
		if l, at := story.Parse(long("settle\n", n)); at != -1 || len(l) != n {
			t.Errorf("Parse of %d lines: %d, %d", n, len(l), at)
		}
		refuses(t, long("settle\n", n)+"settle", n)
	}
	refuses(t, long("settle\n", 201), 200)
	refuses(t, long("settle\n", 5000), 200)
	refuses(t, long("settle\n", 200)+"nonsense\n", 200)
	refuses(t, long("settle\n", 200)+"\n", 200)
	refuses(t, long("settle\n", 7)+"nonsense\n"+long("settle\n", 300), 7)
	refuses(t, long("settle\n", 199)+"nonsense\n"+long("settle\n", 300), 199)
	step := cohort.Step{Item: api.Item{Kind: api.Settle}}
	for n, want := range map[int]api.Errno{0: api.OK, 200: api.OK, 201: api.ErrLong, 400: api.ErrLong} {
		s, e := story.Print(slices.Repeat([]cohort.Step{step}, n)...)
		if e != want || e == api.OK && s != long("settle\n", n) || e != api.OK && s != "" {
			t.Errorf("Print of %d: %d bytes, %d", n, len(s), e)
		}
	}
	bad := slices.Repeat([]cohort.Step{{}}, 201)
	if s, e := story.Print(bad...); e != api.ErrLong || s != "" {
		t.Errorf("Print of 201 that are none: %d", e)
	}
}

// P28.3: what no word says must be zero, numbers within bounds, texts their signs.
func TestPrintRefuses(t *testing.T) {
	refused := func(s cohort.Step) {
		t.Helper()
		if text, e := story.Print(cohort.Step{Item: api.Item{Kind: api.Settle}}, s); e != api.ErrArg || text != "" {
			t.Errorf("Print(%+v): %q, %d", s, text, e)
		}
	}
	for _, step := range said() {
		kind, op := step.Item.Kind, step.Item.Request.Op
		if kind == 0 {
			continue
		}
		words := map[string][]int{"member": {1, 5, 6, 7, 8, 9, 10, 11, 12, 13}, "client": {1}, "n": {2, 3, 4, 5, 6, 11}, "shard": {12}, "to": {5, 12}, "torn": {6, 11}, "bytes": {5}}
		set := func(word string, change func(s *cohort.Step, n int)) {
			t.Helper()
			for _, n := range []int{1, 65535, -1, 65536, 100000, math.MinInt, math.MaxInt} {
				s := step
				change(&s, n)
				if !slices.Contains(words[word], kind) || n < 0 || n > 65535 {
					refused(s)
				} else if _, e := story.Print(s); e != api.OK {
					t.Errorf("Print(%+v): %d", s, e)
				}
			}
		}
		set("member", func(s *cohort.Step, n int) { s.Item.Member = n })
		set("client", func(s *cohort.Step, n int) { s.Item.Client = n })
		set("n", func(s *cohort.Step, n int) { s.Item.N = n })
		set("shard", func(s *cohort.Step, n int) { s.Item.Shard = n })
		set("to", func(s *cohort.Step, n int) { s.Item.To = n })
		set("torn", func(s *cohort.Step, n int) { s.Item.Torn = n })
		keeps := kind == api.Send && (op == api.Escrow || op == api.Replace)
		for _, c := range []struct {
			ok     bool
			change func(s *cohort.Step)
		}{
			{kind == api.Inject, func(s *cohort.Step) { s.Item.Bytes = []byte{0} }},
			{true, func(s *cohort.Step) { s.Item.Request.Secret = append([]byte{}, s.Item.Request.Secret...) }},
			{keeps, func(s *cohort.Step) { s.Item.Request.Secret = []byte{7} }},
			{keeps, func(s *cohort.Step) { s.Item.Request.Limit = 1 }},
			{false, func(s *cohort.Step) { s.Item.Request.Limit = -1 }},
			{false, func(s *cohort.Step) { s.Item.Request.Limit = 65536 }},
			{kind == api.Send, func(s *cohort.Step) { s.Item.Request.ID = api.ID{9, 9, 9, 9} }},
			{keeps || op == api.Recover, func(s *cohort.Step) { s.Pin = "7" }},
			{keeps || op == api.Remove, func(s *cohort.Step) { s.Owner = "7" }},
			{false, func(s *cohort.Step) { s.Pin = "\xff" }},
			{false, func(s *cohort.Step) { s.Owner = "a\xe2\x82" }},
			{false, func(s *cohort.Step) { s.Item.Request.Pin[15] = 1 }},
			{false, func(s *cohort.Step) { s.Item.Request.Owner[15] = 1 }},
			{false, func(s *cohort.Step) { s.Item.Request.Key[15] = 1 }},
			{false, func(s *cohort.Step) { s.Item.Request.Client = 1 }},
			{false, func(s *cohort.Step) { s.Item.Request.Num = 1 }},
			{false, func(s *cohort.Step) { s.Item.Request.Op += 5 }},
			{false, func(s *cohort.Step) { s.Item.Request.Op = -1 }},
			{false, func(s *cohort.Step) { s.Item.Kind = 0 }},
			{false, func(s *cohort.Step) { s.Item.Kind = 15 }},
			{false, func(s *cohort.Step) { s.Item.Kind = math.MinInt }},
			{false, func(s *cohort.Step) { s.Item.Kind = math.MaxInt }},
		} {
			s := step
			c.change(&s)
			if !c.ok {
				refused(s)
			} else if text, e := story.Print(s); e != api.OK {
				t.Errorf("Print(%+v): %q, %d", s, text, e)
			}
		}
	}
	refused(cohort.Step{})
	refused(cohort.Step{Item: api.Item{Kind: api.Send}})
}

// A plain reading of P28.2: which lines are ones.
var (
	num     = `(0|[1-9][0-9]{0,4})`
	hexes   = `(-|([0-9a-f]{2})+)`
	quote   = `"([^"\\]|\\["\\n])*"`
	plainly = regexp.MustCompile(`^(ask ` + num + ` ` + num + ` ((escrow|replace) [0-9a-f]{8} ` + num + ` ` + hexes + ` ` + quote + ` ` + quote + `|(recover|remove) [0-9a-f]{8} ` + quote + `)` +
		`|(deliver|lose|double|start|stop|copy|swap|again) ` + num + `|(fuse|spoil|move) ` + num + ` ` + num + ` ` + num + `|inject ` + num + ` ` + num + ` ` + num + ` ` + hexes + `|settle)$`)
	quotes = regexp.MustCompile(quote)
)

func isLine(s string) bool {
	if !utf8.ValidString(s) || !plainly.MatchString(s) {
		return false
	}
	words := strings.Fields(quotes.ReplaceAllString(s, "q"))
	for i, w := range words {
		hexed := words[0] == "ask" && (i == 4 || i == 6) || words[0] == "inject" && i == 4
		if n, e := strconv.Atoi(w); e == nil && !hexed && n > 65535 {
			return false
		}
	}
	return true
}

// P28.4, W6: of any text, Parse tells the first line that is none, or steps whose Print is the text.
func TestAnyText(t *testing.T) {
	q := rand.New(rand.NewSource(29))
	var lines []string
	for s := range said() {
		if len(s) < 1000 {
			lines = append(lines, s)
		}
	}
	slices.Sort(lines)
	bits := []string{" ", "\n", "\"", "\\", "0", "00", "-", "a", "\xff", "\u20ac", "65536", "settle", "n", "9", "ff", "\t"}
	right := 0
	for range 30000 {
		var b strings.Builder
		for range q.Intn(5) {
			b.WriteString(lines[q.Intn(len(lines))] + "\n")
		}
		s := []byte(b.String())
		for range q.Intn(3) {
			i, bit := q.Intn(len(s)+1), bits[q.Intn(len(bits))]
			j := min(len(s), i+q.Intn(2))
			s = slices.Concat(s[:i], []byte(bit), s[j:])
		}
		text := string(s)
		want := -1
		all := strings.SplitAfter(text, "\n")
		for i, line := range all {
			if line == "" && i == len(all)-1 {
				break
			}
			if !strings.HasSuffix(line, "\n") || !isLine(line[:len(line)-1]) {
				want = i
				break
			}
		}
		steps, n := story.Parse(text)
		if n != want || n >= 0 && len(steps) != 0 {
			t.Fatalf("Parse(%q): %d; must be %d", text, n, want)
		}
		if n < 0 {
			if back, e := story.Print(steps...); e != api.OK || back != text {
				t.Fatalf("Print of Parse(%q): %q, %d", text, back, e)
			}
			right++
		}
	}
	if right < 3000 || right > 28000 {
		t.Errorf("%d were right", right)
	}
}

func TestPlay(t *testing.T) {
	config := cohort.Config{Members: 2, Clients: 1, Seed: 4}
	text := `ask 0 0 escrow 00000000 3 736563726574 "1234" "me"
settle
ask 0 1 escrow 00000000 3 736563726574 "1234" "me"
settle
ask 0 0 recover 00000000 "4321"
deliver 0
deliver 0
ask 9 0 recover 00000000 "4321"
inject 0 9 9 00
deliver 0
fuse 0 0 0
move 0 0 1
move 1 1 0
start 0
again 1
stop 1
copy 1
swap 1
spoil 1 2 3
lose 0
double 0
settle
`
	out, n, e := story.Play(config, text)
	if e != api.OK || n != -1 {
		t.Fatalf("Play: %d, %d", n, e)
	}
	w, _ := cohort.New(config)
	steps, _ := story.Parse(text)
	want := w.Run(steps...)
	if len(out) != len(want) || len(out) != strings.Count(text, "\n") {
		t.Fatalf("Play: %d outs", len(out))
	}
	for i := range want {
		a, b := out[i], want[i]
		if a.Kind != b.Kind || a.Why != b.Why || a.N != b.N || a.Reply.Why != b.Reply.Why || !bytes.Equal(a.Reply.Secret, b.Reply.Secret) || a.Reply.Left != b.Reply.Left {
			t.Errorf("line %d: %+v; must be %+v", i, a, b)
		}
	}
	if out, n, e := story.Play(config, ""); e != api.OK || n != -1 || len(out) != 0 {
		t.Errorf("Play of nothing: %d, %d", n, e)
	}
	if out, n, e := story.Play(config, "settle\nsettle\nsettl\n"); e != api.ErrForm || n != 2 || len(out) != 0 {
		t.Errorf("Play of a bad line: %d, %d", n, e)
	}
	if out, n, e := story.Play(config, "settl\nsettle\n"); e != api.ErrForm || n != 0 || len(out) != 0 {
		t.Errorf("Play of a bad first line: %d, %d", n, e)
	}
	if out, n, e := story.Play(config, long("settle\n", 201)); e != api.ErrForm || n != 200 || len(out) != 0 {
		t.Errorf("Play of too much: %d, %d", n, e)
	}
	for _, c := range []cohort.Config{{}, {Members: 9, Clients: 1}, {Members: 1, Clients: 5}} {
		if out, n, e := story.Play(c, "settle\nnonsense"); e != api.ErrArg || n != 0 || len(out) != 0 {
			t.Errorf("Play in no world: %d, %d", n, e)
		}
	}
}
