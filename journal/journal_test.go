package journal_test

import (
	"bytes"
	"math"
	"testing"

	"claviger/api"
	"claviger/blend"
	"claviger/codec"
	"claviger/frame"
	"claviger/journal"
	"claviger/register"
	"claviger/slots"
	"claviger/veil"
)

var key = api.Digest{1, 2, 3}

// writer writes a journal as P10.3 says it.
type writer struct {
	d *slots.Disk
	r api.Register
}

func (w *writer) keep(t *testing.T, r api.Record) {
	t.Helper()
	b, e := frame.Seal(key, w.r.Count+1, w.r.Head, r)
	place := journal.Place(w.r)
	next, ok := register.Next(w.r, frame.Head(w.r.Head, b))
	if e != api.OK || place != 2+register.Held(w.r) || !w.d.Put(place, b) || !ok {
		t.Fatalf("a record could not be kept at %+v", w.r)
	}
	w.r = next
}

func (w *writer) fold(t *testing.T, image []byte) {
	t.Helper()
	b, e := journal.Seal(key, w.r, image)
	fold, ok := register.Fold(w.r, journal.First(b))
	if e != api.OK || !w.d.Put(journal.Room(w.r), b) || !ok {
		t.Fatalf("an image could not be kept at %+v", w.r)
	}
	w.r = fold
}

func record(i int) api.Record {
	return api.Record{Kind: api.Done, Shard: i % api.Shards, Epoch: uint64(i + 1)}
}

func sameRecords(a []api.Record, from, to int) bool {
	if len(a) != to-from {
		return false
	}
	for i, r := range a {
		x, _ := codec.Record(r)
		y, _ := codec.Record(record(from + i))
		if !bytes.Equal(x, y) {
			return false
		}
	}
	return true
}

func loads(t *testing.T, d *slots.Disk, r api.Register, image string, from, to int) {
	t.Helper()
	got, l, e := journal.Load(key, d, r)
	if e != api.OK || string(got) != image || !sameRecords(l, from, to) {
		t.Errorf("Load at %+v: %q, %d records, %d", r, got, len(l), e)
	}
}

func refuses(t *testing.T, what string, k api.Digest, d *slots.Disk, r api.Register, want api.Errno) {
	t.Helper()
	if got, l, e := journal.Load(k, d, r); e != want || len(got) != 0 || len(l) != 0 {
		t.Errorf("Load with %s: %q, %d records, %d", what, got, len(l), e)
	}
}

// P10.1.
func TestPlaceAndRoom(t *testing.T) {
	for held := range uint64(9) {
		for _, base := range []uint64{0, 5} {
			r := api.Register{Count: base + held, Base: base}
			want := 2 + int(held)
			if held == 8 {
				want = -1
			}
			if journal.Place(r) != want {
				t.Errorf("Place of %d held: %d", held, journal.Place(r))
			}
		}
	}
	if journal.Place(api.Register{Count: 9}) != 2 {
		t.Error("Place of a register that may not be")
	}
	if journal.Room(api.Register{}) != 1 || journal.Room(api.Register{Point: 1}) != 0 {
		t.Error("Room")
	}
	journal.Room(api.Register{Point: math.MinInt})
}

func TestSealAndFirst(t *testing.T) {
	r := api.Register{Boot: 2, Count: 7, Base: 3, Head: api.Digest{1}}
	for _, n := range []int{0, 1, 100, api.MaxSlot - veil.Mark} {
		image := bytes.Repeat([]byte{3}, n)
		b, e := journal.Seal(key, r, image)
		if e != api.OK || !bytes.Equal(b, veil.Seal(key, 7, []byte("image"), image)) || len(b) != n+8 {
			t.Errorf("Seal of %d bytes: %d, %d", n, len(b), e)
		}
		if journal.First(b) != blend.Sum(b) {
			t.Error("First")
		}
	}
	for _, n := range []int{api.MaxSlot - veil.Mark + 1, api.MaxSlot, api.MaxSlot + 1} {
		if b, e := journal.Seal(key, r, make([]byte, n)); e != api.ErrLong || len(b) != 0 {
			t.Errorf("Seal of %d bytes: %d, %d", n, len(b), e)
		}
	}
}

// P10.2, P10.3: what was written is what is loaded, at each step.
func TestLoad(t *testing.T) {
	w := &writer{d: slots.New()}
	loads(t, w.d, w.r, "", 0, 0)
	image, from := "", 0
	for i := range 40 {
		w.keep(t, record(i))
		loads(t, w.d, w.r, image, from, i+1)
		w.r.Boot++
		loads(t, w.d, w.r, image, from, i+1)
		if held := register.Held(w.r); held == api.Frames || i == 2 || i == 3 {
			image, from = string(bytes.Repeat([]byte{'i'}, i)), i+1
			w.fold(t, []byte(image))
			loads(t, w.d, w.r, image, from, from)
		}
	}
	empty := &writer{d: slots.New()}
	empty.keep(t, record(0))
	empty.fold(t, nil)
	loads(t, empty.d, empty.r, "", 1, 1)
}

// lied makes disks that tell something else, and asks that all are refused.
func lied(t *testing.T, w *writer, asked []int) {
	t.Helper()
	for _, n := range asked {
		b, _ := w.d.Get(n)
		for at := range b {
			d := w.d.Copy()
			d.Turn(n, at)
			refuses(t, "a turned byte", key, d, w.r, api.ErrSeal)
		}
		for _, other := range [][]byte{nil, b[:len(b)-1], append(bytes.Clone(b), 0)} {
			d := w.d.Copy()
			d.Put(n, other)
			refuses(t, "other bytes", key, d, w.r, api.ErrSeal)
		}
		d := slots.New()
		for m := range api.Slots {
			if x, ok := w.d.Get(m); ok && m != n {
				d.Put(m, x)
			}
		}
		refuses(t, "a slot that has nothing", key, d, w.r, api.ErrSeal)
	}
}

func TestLies(t *testing.T) {
	w := &writer{d: slots.New()}
	for i := range 3 {
		w.keep(t, record(i))
	}
	lied(t, w, []int{2, 3, 4})
	old := &writer{d: w.d.Copy(), r: w.r}
	w.keep(t, record(3))
	refuses(t, "an older disk", key, old.d, w.r, api.ErrSeal)
	loads(t, w.d, old.r, "", 0, 3) // a frame past the register's is not asked
	old.keep(t, record(9))
	refuses(t, "another record", key, old.d, w.r, api.ErrSeal)
	w.fold(t, []byte("the image"))
	lied(t, w, []int{1})
	before := w.d.Copy()
	w.keep(t, record(4))
	w.keep(t, record(5))
	lied(t, w, []int{1, 2, 3})
	refuses(t, "the frames ahead of the image", key, before, w.r, api.ErrSeal)
	for n := range api.Slots {
		if n != 1 && n != 2 && n != 3 {
			w.d.Put(n, []byte("what lies elsewhere is not asked"))
		}
	}
	loads(t, w.d, w.r, "the image", 4, 6)
	refuses(t, "another key", api.Digest{}, w.d, w.r, api.ErrSeal)
	wrong := w.r
	wrong.Head[15]++
	refuses(t, "another head", key, w.d, wrong, api.ErrSeal)
	wrong = w.r
	wrong.Point = 0
	refuses(t, "another point", key, w.d, wrong, api.ErrSeal)
	wrong = w.r
	wrong.Count++
	refuses(t, "another count", key, w.d, wrong, api.ErrSeal)
	wrong = w.r
	wrong.Base++
	refuses(t, "another base", key, w.d, wrong, api.ErrSeal)
}

// An image of the same bytes, but sealed at another count, is another one.
func TestHeadsChain(t *testing.T) {
	w := &writer{d: slots.New()}
	w.keep(t, record(0))
	w.fold(t, []byte("a"))
	w.keep(t, record(1))
	forged := w.r
	forged.Head = frame.Head(api.Digest{}, []byte("x"))
	refuses(t, "a head of something else", key, w.d, forged, api.ErrSeal)
	other := &writer{d: slots.New()}
	other.keep(t, record(0))
	other.fold(t, []byte("b"))
	b, _ := other.d.Get(1)
	w.d.Put(1, b)
	refuses(t, "an image of another history", key, w.d, w.r, api.ErrSeal)
	// with no frame behind it, the head alone tells that it is not the right image
	lone := &writer{d: slots.New()}
	lone.keep(t, record(0))
	lone.fold(t, []byte("a"))
	lone.d.Put(1, b)
	refuses(t, "an image of another history alone", key, lone.d, lone.r, api.ErrSeal)
}

func TestWrongArguments(t *testing.T) {
	d := slots.New()
	refuses(t, "a nil disk", key, nil, api.Register{}, api.ErrArg)
	for _, r := range []api.Register{{Point: 2}, {Point: -1}, {Count: 9}, {Base: 1}, {Head: api.Digest{1}}, {Boot: api.MaxCount + 1}, {Count: math.MaxUint64}} {
		refuses(t, "a register that may not be", key, d, r, api.ErrArg)
	}
	refuses(t, "nothing there", key, d, api.Register{Count: 1, Head: api.Digest{1}}, api.ErrSeal)
	refuses(t, "no image there", key, d, api.Register{Count: 1, Base: 1, Head: blend.Sum(nil)}, api.ErrSeal)
	refuses(t, "no image there, and no head", key, d, api.Register{Count: 1, Base: 1}, api.ErrSeal)
	loads(t, d, api.Register{}, "", 0, 0)
	loads(t, d, api.Register{Boot: 5, Point: 1}, "", 0, 0)
	// a record that opens, but is none, is refused as what does not open is
	sealed := veil.Seal(key, 1, make([]byte, 16), []byte{9})
	d.Put(2, sealed)
	refuses(t, "a record that is none", key, d, api.Register{Count: 1, Head: frame.Head(api.Digest{}, sealed)}, api.ErrSeal)
}

func TestMemory(t *testing.T) {
	w := &writer{d: slots.New()}
	w.keep(t, record(0))
	w.fold(t, []byte("image"))
	before := w.d.Copy()
	image, _, _ := journal.Load(key, w.d, w.r)
	image[0]++
	loads(t, w.d, w.r, "image", 1, 1)
	if !slots.Same(before, w.d) {
		t.Error("Load changed the disk")
	}
}
