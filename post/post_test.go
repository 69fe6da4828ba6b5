package post_test

import (
	"bytes"
	"math"
	"math/rand"
	"slices"
	"testing"

	"claviger/api"
	"claviger/post"
)

func letter(i int) api.Letter {
	return api.Letter{Kind: i, From: -i, To: 2 * i, Bytes: []byte{byte(i), 1, 2}}
}

func same(a, b api.Letter) bool {
	return a.Kind == b.Kind && a.From == b.From && a.To == b.To && bytes.Equal(a.Bytes, b.Bytes)
}

// entry is a letter of a plain office.
type entry struct {
	l    api.Letter
	held bool
}

// is holds an office against a plain one, by all that can be asked.
func is(t *testing.T, o *post.Office, row []entry) {
	t.Helper()
	first, all := -1, []api.Letter(nil)
	for i, e := range row {
		if first < 0 && !e.held {
			first = i
		}
		all = append(all, e.l)
		if l, ok := o.At(i); !ok || !same(l, e.l) || o.Held(i) != e.held {
			t.Fatalf("At(%d): %+v, %v; held %v; must be %+v", i, l, ok, o.Held(i), e)
		}
	}
	if o.Len() != len(row) || o.First() != first || !slices.EqualFunc(o.All(), all, same) {
		t.Fatalf("Len %d, First %d; must be %d, %d", o.Len(), o.First(), len(row), first)
	}
	for _, i := range []int{-1, len(row), len(row) + 1, math.MinInt, math.MaxInt} {
		if l, ok := o.At(i); ok || !same(l, api.Letter{}) || o.Held(i) {
			t.Fatalf("At(%d): %+v, %v", i, l, ok)
		}
	}
}

// P21.1.
func TestFewLetters(t *testing.T) {
	o := post.New()
	is(t, o, nil)
	if _, ok := o.Take(0); ok || o.Double(0) || o.Hold(0) || o.Free(0) || o.First() != -1 {
		t.Error("an office that has none")
	}
	if !o.Put(letter(1)) || !o.Hold(0) {
		t.Error("Put, Hold")
	}
	if l, ok := o.Take(0); ok || !same(l, api.Letter{}) {
		t.Error("Take of one that is held")
	}
	is(t, o, []entry{{letter(1), true}})
	if o.Hold(0) {
		t.Error("Hold twice")
	}
	if !o.Double(0) {
		t.Error("Double of one that is held")
	}
	is(t, o, []entry{{letter(1), true}, {letter(1), false}})
	if o.Free(1) || !o.Free(0) || o.Free(0) {
		t.Error("Free")
	}
	is(t, o, []entry{{letter(1), false}, {letter(1), false}})
	o.Put(letter(2))
	if l, ok := o.Take(1); !ok || !same(l, letter(1)) {
		t.Error("Take")
	}
	is(t, o, []entry{{letter(1), false}, {letter(2), false}})
}

func TestFull(t *testing.T) {
	o := post.New()
	var row []entry
	if o.Put(api.Letter{Bytes: make([]byte, api.MaxSlot+1)}) {
		t.Error("Put of too long a letter")
	}
	is(t, o, row)
	for i := range api.MaxNet {
		l := letter(i)
		if i == 3 {
			l.Bytes = make([]byte, api.MaxSlot)
		}
		if i == 4 {
			l.Bytes = nil
		}
		if !o.Put(l) {
			t.Fatalf("Put of letter %d", i)
		}
		row = append(row, entry{l: l})
	}
	o.Hold(5)
	row[5].held = true
	if o.Put(letter(99)) || o.Double(0) || o.Double(5) {
		t.Error("a full office takes a letter")
	}
	is(t, o, row)
	o.Take(63)
	if !o.Double(5) || o.Put(letter(99)) {
		t.Error("room for one")
	}
	row[63] = entry{l: letter(5)}
	is(t, o, row)
}

func TestMemory(t *testing.T) {
	o := post.New()
	room := []byte("abc and more")
	o.Put(api.Letter{Kind: 1, Bytes: room[:3]})
	room[0] = 'x'
	o.Double(0)
	l, _ := o.At(0)
	l.Bytes[0] = 'y'
	_ = append(l.Bytes, 'q')
	o.All()[0].Bytes[0] = 'z'
	want := api.Letter{Kind: 1, Bytes: []byte("abc")}
	is(t, o, []entry{{l: want}, {l: want}})
	o.Hold(0)
	l, _ = o.At(0)
	l.Bytes[0] = 'y'
	o.Double(0)
	taken, _ := o.Take(1)
	taken.Bytes[0] = 'z'
	is(t, o, []entry{{want, true}, {want, false}})
	if string(room) != "xbc and more" {
		t.Error("what was handed in is changed")
	}
}

func TestManyWays(t *testing.T) {
	q := rand.New(rand.NewSource(21))
	for range 100 {
		o := post.New()
		var row []entry
		for n := range 300 {
			i := q.Intn(len(row)+3) - 1
			there := i >= 0 && i < len(row)
			switch q.Intn(8) {
			case 0:
				l, ok := o.Take(i)
				want := there && !row[i].held
				if ok != want || ok && !same(l, row[i].l) || !ok && !same(l, api.Letter{}) {
					t.Fatalf("Take(%d): %+v, %v", i, l, ok)
				}
				if want {
					row = slices.Delete(row, i, i+1)
				}
			case 1:
				if ok := o.Double(i); ok != (there && len(row) < 64) {
					t.Fatalf("Double(%d): %v", i, ok)
				} else if ok {
					row = append(row, entry{l: row[i].l})
				}
			case 2:
				if ok := o.Hold(i); ok != (there && !row[i].held) {
					t.Fatalf("Hold(%d): %v", i, ok)
				} else if ok {
					row[i].held = true
				}
			case 3:
				if ok := o.Free(i); ok != (there && row[i].held) {
					t.Fatalf("Free(%d): %v", i, ok)
				} else if ok {
					row[i].held = false
				}
			default:
				if ok := o.Put(letter(n)); ok != (len(row) < 64) {
					t.Fatalf("Put: %v", ok)
				} else if ok {
					row = append(row, entry{l: letter(n)})
				}
			}
			is(t, o, row)
		}
	}
}
