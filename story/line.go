package story

import (
	"slices"
	"strconv"
	"strings"

	"claviger/api"
	"claviger/blend"
	"claviger/cohort"
)

const (
	none      = "-"
	hexDigits = "0123456789abcdef"
	most      = 65535
)

// write tells a step's line. Of a step that has none the line is one that can't be read.
func write(s cohort.Step) string {
	x := s.Item
	if x.Kind < api.Send || x.Kind > api.Settle {
		return ""
	}
	words := []string{Verbs()[x.Kind-api.Send]}
	for _, n := range numbers(&x) {
		words = append(words, strconv.Itoa(*n))
	}
	switch x.Kind {
	case api.Send:
		words = append(words, asked(s)...)
	case api.Inject:
		words = append(words, hex(x.Bytes))
	}
	return strings.Join(words, " ")
}

// asked tells the words of what is asked.
func asked(s cohort.Step) []string {
	q := s.Item.Request
	if q.Op < api.Escrow || q.Op > api.Remove {
		return nil
	}
	words := []string{ops()[q.Op-api.Escrow], hex(q.ID[:])}
	switch q.Op {
	case api.Escrow, api.Replace:
		return append(words, strconv.Itoa(q.Limit), hex(q.Secret), Quote(s.Pin), Quote(s.Owner))
	case api.Recover:
		return append(words, Quote(s.Pin))
	}
	return append(words, Quote(s.Owner))
}

func hex(b []byte) string {
	if len(b) == 0 {
		return none
	}
	out := make([]byte, 0, 2*len(b))
	for _, x := range b {
		out = append(out, hexDigits[x>>4], hexDigits[x&15])
	}
	return string(out)
}

// line is read word by word; once a word is wrong it stays so. Ahead of each word stands a blank.
type line struct {
	rest  string
	wrong bool
}

// read tells the step of a line.
func read(text string) (cohort.Step, bool) {
	l := line{rest: " " + text}
	var s cohort.Step
	s.Item.Kind = l.verb(Verbs(), api.Send)
	for _, n := range numbers(&s.Item) {
		*n = l.number()
	}
	switch s.Item.Kind {
	case api.Send:
		l.ask(&s)
	case api.Inject:
		s.Item.Bytes = l.bytes()
	}
	if l.wrong || l.rest != "" {
		return cohort.Step{}, false
	}
	return s, true
}

func (l *line) ask(s *cohort.Step) {
	q := &s.Item.Request
	q.Op = l.verb(ops(), api.Escrow)
	id := l.bytes()
	if copy(q.ID[:], id) != len(q.ID) || len(id) > len(q.ID) {
		l.wrong = true
	}
	if q.Op == api.Escrow || q.Op == api.Replace {
		q.Limit = l.number()
		q.Secret = l.bytes()
	}
	if q.Op != api.Remove {
		s.Pin = l.text()
	}
	if q.Op != api.Recover {
		s.Owner = l.text()
	}
}

// blank passes by the blank that stands ahead of a word.
func (l *line) blank() {
	rest, ok := strings.CutPrefix(l.rest, " ")
	l.rest = rest
	l.wrong = l.wrong || !ok
}

func (l *line) word() string {
	l.blank()
	end := strings.IndexByte(l.rest, ' ')
	if end < 0 {
		end = len(l.rest)
	}
	word := l.rest[:end]
	l.rest = l.rest[end:]
	return word
}

// verb tells the number of a verb; the first one's is first.
func (l *line) verb(verbs []string, first int) int {
	i := slices.Index(verbs, l.word())
	if i < 0 {
		l.wrong = true
		return 0
	}
	return first + i
}

func (l *line) number() int {
	word := l.word()
	n := 0
	for i := range len(word) {
		d := word[i] - '0'
		// A 0 ahead is none, but of the number 0.
		if d > 9 || i > 0 && n == 0 || n > most {
			l.wrong = true
			return 0
		}
		n = 10*n + int(d)
	}
	if word == "" || n > most {
		l.wrong = true
		return 0
	}
	return n
}

func (l *line) bytes() []byte {
	word := l.word()
	if word == none {
		return nil
	}
	if word == "" || len(word)%2 != 0 {
		l.wrong = true
		return nil
	}
	out := make([]byte, 0, len(word)/2)
	for i := 0; i < len(word); i += 2 {
		high, low := strings.IndexByte(hexDigits, word[i]), strings.IndexByte(hexDigits, word[i+1])
		if high < 0 || low < 0 {
			l.wrong = true
			return nil
		}
		out = append(out, byte(high<<4|low))
	}
	return out
}

func (l *line) text() string {
	l.blank()
	text, length, ok := quoted(l.rest)
	if !ok {
		l.wrong = true
		return ""
	}
	l.rest = l.rest[length:]
	return text
}

// same tells whether two steps are the same, field for field.
func same(a, b cohort.Step) bool {
	x, y := a.Item, b.Item
	return a.Pin == b.Pin && a.Owner == b.Owner && x.Kind == y.Kind && x.Member == y.Member && x.Client == y.Client &&
		x.N == y.N && x.Shard == y.Shard && x.To == y.To && x.Torn == y.Torn &&
		blend.Same(x.Bytes, y.Bytes) && sameRequest(x.Request, y.Request)
}

func sameRequest(a, b api.Request) bool {
	return a.Op == b.Op && a.ID == b.ID && a.Pin == b.Pin && a.Limit == b.Limit && a.Owner == b.Owner && a.Key == b.Key &&
		a.Client == b.Client && a.Num == b.Num && blend.Same(a.Secret, b.Secret)
}
