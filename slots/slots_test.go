package slots_test

import (
	"bytes"
	"math"
	"math/rand"
	"testing"

	"claviger/api"
	"claviger/slots"
)

func has(t *testing.T, d *slots.Disk, n int, want string) {
	t.Helper()
	if b, ok := d.Get(n); !ok || string(b) != want {
		t.Errorf("slot %d: %q, %v; must be %q", n, b, ok, want)
	}
}

func hasNone(t *testing.T, d *slots.Disk, n int) {
	t.Helper()
	if b, ok := d.Get(n); ok || len(b) != 0 {
		t.Errorf("slot %d: %q, %v; must be none", n, b, ok)
	}
}

// P7.1.
func TestPutAndGet(t *testing.T) {
	d := slots.New()
	for n := range api.Slots {
		hasNone(t, d, n)
	}
	for _, n := range []int{-1, api.Slots, 99, math.MinInt, math.MaxInt} {
		if d.Put(n, []byte("b")) {
			t.Errorf("Put(%d)", n)
		}
		hasNone(t, d, n)
	}
	if d.Put(0, make([]byte, api.MaxSlot+1)) || d.Pending() != 0 {
		t.Error("Put of too much")
	}
	hasNone(t, d, 0)
	if !d.Put(0, make([]byte, api.MaxSlot)) {
		t.Error("Put of MaxSlot bytes")
	}
	has(t, d, 0, string(make([]byte, api.MaxSlot)))
	if d.Put(0, make([]byte, api.MaxSlot+1)) {
		t.Error("Put of too much")
	}
	has(t, d, 0, string(make([]byte, api.MaxSlot)))
	if !d.Put(9, nil) || !d.Put(8, []byte{}) {
		t.Error("Put of nothing")
	}
	has(t, d, 9, "")
	has(t, d, 8, "")
	if d.Pending() != 3 {
		t.Errorf("Pending: %d", d.Pending())
	}
	d.Put(9, []byte("x"))
	d.Put(9, []byte("yz"))
	has(t, d, 9, "yz")
	if d.Pending() != 5 {
		t.Errorf("Pending: %d", d.Pending())
	}
	d.Sync()
	if d.Pending() != 0 {
		t.Errorf("Pending behind Sync: %d", d.Pending())
	}
	has(t, d, 9, "yz")
	d.Put(1, nil)
	d.Crash(0)
	if d.Pending() != 0 {
		t.Errorf("Pending behind Crash: %d", d.Pending())
	}
}

func TestMemory(t *testing.T) {
	d := slots.New()
	b := []byte("abcdef")
	d.Put(2, b[:3])
	b[0] = 'x'
	has(t, d, 2, "abc")
	got, _ := d.Get(2)
	got[1] = 'x'
	_ = append(got, 'q')
	has(t, d, 2, "abc")
	d.Sync()
	c := d.Copy()
	d.Turn(2, 0)
	has(t, c, 2, "abc")
	has(t, d, 2, "`bc")
	c.Turn(2, 2)
	has(t, c, 2, "abb")
	has(t, d, 2, "`bc")
	d.Put(2, []byte("new"))
	d.Crash(2)
	has(t, d, 2, "ne")
	has(t, c, 2, "abb")
	c.Put(3, []byte("only"))
	hasNone(t, d, 3)
	if string(b) != "xbcdef" {
		t.Error("what was handed in is changed")
	}
}

// P7.2.
func TestCrash(t *testing.T) {
	fresh := func() *slots.Disk {
		d := slots.New()
		d.Put(1, []byte("one"))
		d.Put(2, []byte("two"))
		d.Sync()
		d.Put(2, []byte("second"))
		d.Put(3, []byte("third"))
		return d
	}
	for _, c := range []struct {
		torn  int
		there bool
		want  string
	}{{math.MinInt, false, ""}, {-1, false, ""}, {0, false, ""}, {1, true, "t"}, {4, true, "thir"}, {5, true, "third"}, {6, true, "third"}, {math.MaxInt, true, "third"}} {
		d := fresh()
		d.Crash(c.torn)
		for range 3 {
			has(t, d, 1, "one")
			has(t, d, 2, "two")
			if c.there {
				has(t, d, 3, c.want)
			} else {
				hasNone(t, d, 3)
			}
			d.Crash(7) // there was no Put since: nothing comes of it
		}
	}
	d := fresh()
	d.Put(2, []byte("twice"))
	d.Crash(2)
	has(t, d, 2, "tw")
	hasNone(t, d, 3)
	d.Put(2, nil)
	d.Crash(1)
	has(t, d, 2, "")
	d.Put(4, []byte("abc"))
	d.Sync()
	d.Crash(1)
	has(t, d, 4, "abc")
	d.Put(4, []byte("xyz"))
	d.Put(99, []byte("nothing"))
	d.Put(5, make([]byte, api.MaxSlot+1))
	d.Crash(1)
	has(t, d, 4, "x")
	d.Put(0, []byte("abc"))
	d.Crash(0)
	hasNone(t, d, 0)
	has(t, d, 4, "x")
}

// P7.2: what a crash tears is what was put last, whatever was turned since, in its slot or elsewhere.
func TestCrashBehindTurn(t *testing.T) {
	for _, c := range []struct {
		torn int
		want string
	}{{1, "o"}, {2, "on"}, {3, "one"}, {4, "one"}, {math.MaxInt, "one"}} {
		d := slots.New()
		d.Put(5, []byte("all"))
		d.Put(5, []byte("ago"))
		d.Put(4, []byte("one"))
		for _, x := range [][2]int{{4, 0}, {4, 2}, {4, 2}, {5, 0}} {
			if !d.Turn(x[0], x[1]) {
				t.Fatalf("Turn(%d, %d)", x[0], x[1])
			}
		}
		has(t, d, 4, "nne")
		if d.Pending() != 3 {
			t.Errorf("Turn is no Put: Pending %d", d.Pending())
		}
		d.Crash(c.torn)
		has(t, d, 4, c.want)
		has(t, d, 5, "`go")
		d.Crash(1)
		has(t, d, 4, c.want)
	}
	d := slots.New()
	d.Put(4, []byte("one"))
	d.Sync()
	d.Turn(4, 0)
	d.Crash(1)
	has(t, d, 4, "nne")
	d.Put(4, nil)
	d.Turn(4, 0)
	d.Crash(1)
	has(t, d, 4, "")
}

// P7.2: a copy, made behind a Put and a Turn, has nothing that a crash could tear; the Put of the first one is torn as it was.
func TestCopyBehindTurn(t *testing.T) {
	d := slots.New()
	d.Put(4, []byte("one"))
	d.Turn(4, 0)
	c := d.Copy()
	c.Crash(1)
	has(t, c, 4, "nne")
	c.Put(6, []byte("six"))
	c.Crash(2)
	has(t, c, 6, "si")
	d.Crash(1)
	has(t, d, 4, "o")
	hasNone(t, d, 6)
}

// P7.3.
func TestCopyTurnSame(t *testing.T) {
	d := slots.New()
	if !slots.Same(d, d.Copy()) || !slots.Same(slots.New(), d) {
		t.Error("Same of new ones")
	}
	d.Put(4, []byte("abc"))
	c := d.Copy()
	if c.Pending() != 0 || d.Pending() != 1 || !slots.Same(c, d) {
		t.Error("Copy")
	}
	c.Crash(1)
	has(t, c, 4, "abc")
	d.Crash(0)
	hasNone(t, d, 4)
	if slots.Same(c, d) || slots.Same(d, c) {
		t.Error("Same of one that has nothing there")
	}
	d.Put(4, nil)
	e := slots.New()
	if slots.Same(d, e) || slots.Same(e, d) {
		t.Error("Same of nothing and of no bytes")
	}
	d.Put(4, []byte("abd"))
	if slots.Same(c, d) {
		t.Error("Same of unlike bytes")
	}
	d.Put(4, []byte("abc"))
	if !slots.Same(c, d) {
		t.Error("Same is as Get tells it, lasting or not")
	}
	d.Put(9, []byte("abc"))
	if slots.Same(c, d) {
		t.Error("Same with a slot more")
	}
	if slots.Same(nil, nil) || slots.Same(nil, d) || slots.Same(d, nil) {
		t.Error("Same of nil")
	}
	for _, x := range [][2]int{{-1, 0}, {10, 0}, {4, -1}, {4, 3}, {0, 0}, {math.MinInt, math.MaxInt}, {math.MaxInt, 0}, {4, math.MaxInt}} {
		before := d.Copy()
		if d.Turn(x[0], x[1]) || !slots.Same(before, d) {
			t.Errorf("Turn(%d, %d)", x[0], x[1])
		}
	}
	d.Sync()
	if !d.Turn(4, 0) || !d.Turn(4, 2) {
		t.Error("Turn")
	}
	has(t, d, 4, "`bb")
	d.Crash(0)
	has(t, d, 4, "`bb")
	if !d.Turn(4, 0) || d.Pending() != 0 {
		t.Error("Turn back")
	}
	has(t, d, 4, "abb")
	d.Put(5, nil)
	if d.Turn(5, 0) {
		t.Error("Turn of a byte of none")
	}
}

// plain is P7.1, P7.2 and Turn over maps.
type plain struct {
	now, old map[int]string
	pending  int
	last     int
	put      string
}

func (p *plain) sync() {
	p.old = map[int]string{}
	for n, s := range p.now {
		p.old[n] = s
	}
	p.pending = 0
}

func (p *plain) crash(torn int) {
	p.now = map[int]string{}
	for n, s := range p.old {
		p.now[n] = s
	}
	if p.pending > 0 && torn > 0 {
		p.now[p.last] = p.put[:min(torn, len(p.put))]
	}
	p.sync()
}

func TestManyWays(t *testing.T) {
	q := rand.New(rand.NewSource(7))
	for range 200 {
		d, p := slots.New(), &plain{now: map[int]string{}, old: map[int]string{}}
		for range 60 {
			switch q.Intn(7) {
			case 0:
				d.Sync()
				p.sync()
			case 1:
				torn := q.Intn(8) - 2
				d.Crash(torn)
				p.crash(torn)
			case 2:
				n, at := q.Intn(10), q.Intn(6)
				if q.Intn(2) == 0 {
					n = p.last
				}
				s, there := p.now[n]
				if d.Turn(n, at) != (there && at < len(s)) {
					t.Fatalf("Turn(%d, %d)", n, at)
				}
				if at < len(s) {
					b := []byte(s)
					b[at] ^= 1
					p.now[n], p.old[n] = string(b), string(b)
				}
			default:
				b := bytes.Repeat([]byte{byte('a' + q.Intn(26))}, q.Intn(6))
				n := q.Intn(10)
				d.Put(n, b)
				p.now[n], p.last, p.put = string(b), n, string(b)
				p.pending++
			}
			if d.Pending() != p.pending {
				t.Fatalf("Pending: %d", d.Pending())
			}
			for n := range api.Slots {
				b, ok := d.Get(n)
				if s, there := p.now[n]; ok != there || string(b) != s {
					t.Fatalf("slot %d: %q, %v; must be %q, %v", n, b, ok, s, there)
				}
			}
		}
	}
}
