package device_test

import (
	"bytes"
	"fmt"
	"math"
	"math/rand"
	"testing"

	"claviger/api"
	"claviger/device"
	"claviger/endorse"
	"claviger/frame"
	"claviger/image"
	"claviger/journal"
	"claviger/register"
	"claviger/shard"
	"claviger/slots"
	"claviger/state"
)

var cohort = api.Digest{3, 1, 4}

// model is a member as P18.2 says it, with an honest disk: what its register's records make.
type model struct {
	key   api.Digest
	r     api.Register
	s     *state.State
	d     *slots.Disk
	steps int64
}

func newModel(member, members int) *model {
	return &model{key: endorse.Key(cohort, member), s: state.New(member, members), d: slots.New()}
}

func (m *model) keep(t *testing.T, r api.Record) {
	t.Helper()
	b, e := frame.Seal(m.key, m.r.Count+1, m.r.Head, r)
	if e != api.OK || m.s.Apply(r) != api.OK {
		t.Fatalf("the model refuses %+v", r)
	}
	m.d.Put(2+int(m.r.Count-m.r.Base), b)
	m.r.Head = frame.Head(m.r.Head, b)
	m.r.Count++
	m.steps += 3
	if m.r.Count-m.r.Base == api.Frames {
		m.fold()
	}
}

func (m *model) fold() {
	b, _ := journal.Seal(m.key, m.r, image.Bytes(m.s))
	m.d.Put(1-m.r.Point, b)
	m.r.Base, m.r.Point, m.r.Head = m.r.Count, 1-m.r.Point, journal.First(b)
	m.steps += 3
}

func is(t *testing.T, d *device.Device, m *model) {
	t.Helper()
	if d.Is() != api.Up || d.Register() != m.r || !state.Same(d.View(), m.s) || d.Steps() != m.steps {
		t.Fatalf("%d, %+v, %d steps, state %v; must be Up, %+v, %d steps", d.Is(), d.Register(), d.Steps(), state.Same(d.View(), m.s), m.r, m.steps)
	}
}

func isDown(t *testing.T, d *device.Device, want int) {
	t.Helper()
	if d.Is() != want || d.View() != nil {
		t.Fatalf("Is: %d; must be %d", d.Is(), want)
	}
}

func does(t *testing.T, d *device.Device, r api.Record, want api.Errno) {
	t.Helper()
	if e := d.Do(r); e != want {
		t.Fatalf("Do(%+v): %d; must be %d", r, e, want)
	}
}

func starts(t *testing.T, d *device.Device, want api.Errno) {
	t.Helper()
	if e := d.Start(); e != want {
		t.Fatalf("Start: %d; must be %d", e, want)
	}
}

func fresh(t *testing.T) (*device.Device, *model) {
	t.Helper()
	d, e := device.New(0, 2, cohort)
	if e != api.OK {
		t.Fatalf("New: %d", e)
	}
	return d, newModel(0, 2)
}

// keep is a record that keeps the i-th Gen of a vault of shard 0.
func keep(i int) api.Record {
	id := api.ID{}
	for shard.Of(id) != 0 {
		id[3]++
	}
	return api.Record{Kind: api.Keep, Vault: api.Vault{ID: id, Gen: uint64(i + 1), Pin: api.Digest{1}, Secret: []byte("secret"), Limit: 5, Owner: api.Digest{2}}}
}

// P18.1.
func TestNew(t *testing.T) {
	for _, c := range [][2]int{{0, 0}, {-1, 1}, {1, 1}, {8, 8}, {0, 9}, {math.MinInt, math.MaxInt}} {
		if d, e := device.New(c[0], c[1], cohort); e != api.ErrArg || d != nil {
			t.Errorf("New(%d, %d): %d", c[0], c[1], e)
		}
	}
	for members := 1; members <= 8; members++ {
		for member := range members {
			d, e := device.New(member, members, cohort)
			if e != api.OK {
				t.Fatalf("New(%d, %d): %d", member, members, e)
			}
			is(t, d, newModel(member, members))
			if !slots.Same(d.Disk(), slots.New()) {
				t.Error("Disk of a new one")
			}
		}
	}
}

// P18.2: the steps, the slots and the register behind each record.
func TestDo(t *testing.T) {
	d, m := fresh(t)
	for i := range 37 {
		was := d.Steps()
		does(t, d, keep(i), api.OK)
		m.keep(t, keep(i))
		is(t, d, m)
		if !slots.Same(d.Disk(), m.d) {
			t.Fatalf("the disk behind record %d", i)
		}
		if want := []int64{3, 6}[map[bool]int{true: 1}[i%8 == 7]]; d.Steps()-was != want {
			t.Fatalf("record %d took %d steps", i, d.Steps()-was)
		}
	}
	for _, c := range []struct {
		r    api.Record
		want api.Errno
	}{
		{api.Record{}, api.ErrArg},
		{api.Record{Kind: api.Done, Shard: 0, Epoch: 1}, api.ErrShard},
		{api.Record{Kind: api.Out, Shard: 0, To: 0, Epoch: 2}, api.ErrArg},
		{api.Record{Kind: api.In, Shard: 1, Epoch: 1}, api.ErrOver},
	} {
		does(t, d, c.r, c.want)
		is(t, d, m)
	}
	for _, r := range []api.Record{{Kind: api.Out, Shard: 2, To: 1, Epoch: 2}, {Kind: api.Done, Shard: 2, Epoch: 2}, {Kind: api.In, Shard: 2, Epoch: 3}, {Kind: api.In, Shard: 5, Epoch: 2}} {
		does(t, d, r, api.OK)
		m.keep(t, r)
		is(t, d, m)
	}
	d.Stop()
	isDown(t, d, api.Down)
	does(t, d, keep(50), api.ErrDown)
	does(t, d, api.Record{}, api.ErrDown)
}

func TestByItself(t *testing.T) {
	d, m := fresh(t)
	does(t, d, keep(0), api.OK)
	m.keep(t, keep(0))
	d.View().Apply(keep(1))
	x := d.Disk()
	x.Put(2, nil)
	x.Sync()
	r := keep(1)
	r.Vault.Secret = []byte("handed")
	does(t, d, r, api.OK)
	m.keep(t, r)
	r.Vault.Secret[0]++
	is(t, d, &model{r: m.r, s: d.View(), steps: 6})
	if v, _ := d.View().Get(r.Vault.ID); string(v.Secret) != "handed" || !slots.Same(d.Disk(), m.d) {
		t.Error("what was handed in is kept")
	}
	d.Stop()
	was := d.Disk()
	d.Swap(was)
	was.Put(2, nil)
	if !slots.Same(d.Disk(), m.d) {
		t.Error("Swap keeps what was handed in")
	}
	starts(t, d, api.OK)
}

// P18.3: the crash in place of each step, of a record that is folded and of one that is not.
func TestFuse(t *testing.T) {
	for _, ahead := range []int{0, 3, 7, 15} {
		for n := range 7 {
			for _, torn := range []int{-1, 0, 1, 9, 1 << 20} {
				t.Run(fmt.Sprint(ahead, n, torn), func(t *testing.T) { crash(t, ahead, n, torn) })
			}
		}
	}
}

func crash(t *testing.T, ahead, n, torn int) {
	d, m := fresh(t)
	for i := range ahead {
		does(t, d, keep(i), api.OK)
		m.keep(t, keep(i))
	}
	steps := 3
	if ahead%8 == 7 {
		steps = 6
	}
	d.Fuse(n, torn)
	before, place, room := d.Register(), journal.Place(d.Register()), journal.Room(d.Register())
	disk := d.Disk()
	if n >= steps {
		does(t, d, keep(ahead), api.OK)
		m.keep(t, keep(ahead))
		is(t, d, m)
		if n == steps {
			does(t, d, keep(ahead+1), api.ErrDown) // the fuse burns on
			isDown(t, d, api.Down)
			starts(t, d, api.OK)
			m.r.Boot++
			is(t, d, m)
		}
		return
	}
	does(t, d, keep(ahead), api.ErrDown)
	isDown(t, d, api.Down)
	if d.Steps() != m.steps+int64(n) {
		t.Fatalf("%d steps were done", d.Steps()-m.steps)
	}
	b, _ := frame.Seal(m.key, before.Count+1, before.Head, keep(ahead))
	if n == 1 && torn > 0 {
		disk.Put(place, b[:min(torn, len(b))])
	} else if n > 1 {
		disk.Put(place, b)
	}
	m.steps += int64(n)
	if n >= 3 {
		m.s.Apply(keep(ahead))
		m.r.Head = frame.Head(m.r.Head, b)
		m.r.Count++
	}
	x, _ := journal.Seal(m.key, m.r, image.Bytes(m.s))
	if n == 4 && torn > 0 {
		disk.Put(room, x[:min(torn, len(x))])
	} else if n > 4 {
		disk.Put(room, x)
	}
	if d.Register() != m.r || !slots.Same(d.Disk(), disk) {
		t.Fatalf("behind the crash: %+v; must be %+v; the disk: %v", d.Register(), m.r, slots.Same(d.Disk(), disk))
	}
	starts(t, d, api.OK)
	m.r.Boot++
	if register.Held(m.r) == api.Frames {
		m.fold()
	}
	is(t, d, m)
	does(t, d, keep(ahead), api.OK) // the fuse is gone
	m.keep(t, keep(ahead))
	is(t, d, m)
}

func TestFuseAnew(t *testing.T) {
	d, m := fresh(t)
	do := func(n int) {
		t.Helper()
		for range n {
			does(t, d, keep(0), api.OK)
			m.keep(t, keep(0))
		}
		is(t, d, m)
	}
	d.Fuse(2, 0)
	d.Fuse(-1, 0)
	do(3)
	d.Fuse(0, 0)
	d.Fuse(math.MinInt, 5)
	do(3)
	d.Fuse(0, 0)
	d.Fuse(7, 0)
	do(1)
	d.Fuse(3, 0)
	does(t, d, keep(0), api.ErrDown) // the eighth is kept, but not folded
	if d.Register().Count != 8 || d.Register().Base != 0 {
		t.Errorf("%+v", d.Register())
	}
}

func TestStop(t *testing.T) {
	d, m := fresh(t)
	does(t, d, keep(0), api.OK)
	m.keep(t, keep(0))
	d.Fuse(0, 1)
	d.Stop()
	isDown(t, d, api.Down)
	if !slots.Same(d.Disk(), m.d) || d.Register() != m.r {
		t.Error("Stop changed what lasts")
	}
	starts(t, d, api.OK)
	m.r.Boot++
	does(t, d, keep(1), api.OK) // Stop took the fuse away
	m.keep(t, keep(1))
	is(t, d, m)
	starts(t, d, api.ErrThere)
	is(t, d, m)
	d.Stop()
	d.Fuse(0, 0)
	d.Stop() // not Up: nothing, and the fuse stays
	starts(t, d, api.OK)
	does(t, d, keep(2), api.ErrDown)
	isDown(t, d, api.Down)
}

// P18.4: a journal that is full is folded by Start, and that may crash too.
func TestStartFolds(t *testing.T) {
	for n := range 4 {
		d, m := fresh(t)
		for i := range 7 {
			does(t, d, keep(i), api.OK)
			m.keep(t, keep(i))
		}
		d.Fuse(3, 0)
		does(t, d, keep(7), api.ErrDown)
		b, _ := frame.Seal(m.key, 8, m.r.Head, keep(7))
		m.s.Apply(keep(7))
		m.r.Head, m.r.Count = frame.Head(m.r.Head, b), 8
		m.steps += 3
		d.Fuse(n, 1)
		if n < 3 {
			starts(t, d, api.ErrDown)
			m.r.Boot++
			isDown(t, d, api.Down)
			m.steps += int64(n)
			if d.Register() != m.r || d.Steps() != m.steps {
				t.Fatalf("%+v, %d steps; must be %+v, %d", d.Register(), d.Steps(), m.r, m.steps)
			}
		}
		starts(t, d, api.OK)
		m.r.Boot++
		m.fold()
		is(t, d, m)
		if n == 3 {
			does(t, d, keep(8), api.ErrDown)
		}
	}
}

func TestLies(t *testing.T) {
	d, m := fresh(t)
	var disks []*slots.Disk
	for i := range 12 {
		disks = append(disks, d.Disk())
		if d.Swap(d.Disk()) || d.Swap(nil) || d.Turn(2, 0) {
			t.Fatal("Swap or Turn of one that is Up")
		}
		does(t, d, keep(i), api.OK)
		m.keep(t, keep(i))
		is(t, d, m)
	}
	refuses := func(what string, d *device.Device) {
		t.Helper()
		boot := d.Register().Boot
		starts(t, d, api.ErrRefused)
		isDown(t, d, api.Refusing)
		if d.Register().Boot != boot+1 {
			t.Errorf("%s: Boot %d", what, d.Register().Boot)
		}
		d.Swap(m.d)
		for range 2 {
			starts(t, d, api.ErrRefused)
			does(t, d, keep(0), api.ErrRefused)
		}
		d.Stop()
		isDown(t, d, api.Refusing)
		if d.Register().Boot != boot+1 {
			t.Errorf("%s: Boot %d", what, d.Register().Boot)
		}
	}
	again := func() *device.Device {
		t.Helper()
		d, e := device.New(0, 2, cohort)
		if e != api.OK {
			t.Fatal(e)
		}
		for i := range 12 {
			does(t, d, keep(i), api.OK)
		}
		d.Stop()
		return d
	}
	for i, x := range append(disks, nil, slots.New()) {
		d := again()
		if !d.Swap(x) {
			t.Fatal("Swap")
		}
		refuses(fmt.Sprint("disk ", i), d)
	}
	for slot := range api.Slots {
		b, there := m.d.Get(slot)
		for at := -1; at <= len(b); at += 7 {
			d := again()
			if d.Turn(slot, at) != (there && at >= 0 && at < len(b)) {
				t.Fatalf("Turn(%d, %d)", slot, at)
			}
			if asked := slot >= 1 && slot <= 5; asked && at >= 0 && at < len(b) {
				refuses("a turned byte", d)
			} else {
				starts(t, d, api.OK)
			}
		}
	}
	same := again()
	same.Swap(nil)
	same.Swap(m.d)
	starts(t, same, api.OK)
	m.r.Boot++
	is(t, same, m)
	// another member's disk, of the same records
	other, _ := device.New(0, 2, api.Digest{})
	for i := range 12 {
		does(t, other, keep(i), api.OK)
	}
	x := again()
	x.Swap(other.Disk())
	refuses("another cohort's disk", x)
}

// P18.5: with an honest disk a member always comes back with what its register's records make.
func TestHonest(t *testing.T) {
	q := rand.New(rand.NewSource(18))
	for range 60 {
		d, m := fresh(t)
		for i := range 80 {
			switch q.Intn(6) {
			case 0:
				d.Fuse(q.Intn(8)-1, q.Intn(200)-1)
			case 1:
				d.Stop()
			case 2:
				if d.Is() == api.Down {
					e := d.Start()
					if e != api.OK && e != api.ErrDown || (e == api.OK) != (d.Is() == api.Up) {
						t.Fatalf("Start: %d, %d", e, d.Is())
					}
				}
			default:
				before := d.Register()
				e := d.Do(keep(i))
				if after := d.Register(); after.Count != before.Count {
					m.keep(t, keep(i))
				} else if e == api.OK {
					t.Fatal("Do kept nothing")
				}
			}
			if d.Is() == api.Up && (d.Register().Count != m.r.Count || d.Register().Head != m.r.Head || d.Register().Base != m.r.Base || !state.Same(d.View(), m.s)) {
				t.Fatalf("%+v; must be %+v", d.Register(), m.r)
			}
			if d.Is() == api.Refusing {
				t.Fatal("an honest disk was refused")
			}
		}
	}
}

// With any disk it comes back just so, or refuses for ever.
func TestAnyDisk(t *testing.T) {
	q := rand.New(rand.NewSource(19))
	refused, back := 0, 0
	for range 300 {
		d, m := fresh(t)
		var kept []*slots.Disk
		for i := range 1 + q.Intn(30) {
			does(t, d, keep(i), api.OK)
			m.keep(t, keep(i))
			if q.Intn(4) == 0 {
				kept = append(kept, d.Disk())
			}
		}
		d.Stop()
		if len(kept) > 0 && q.Intn(2) == 0 {
			d.Swap(kept[q.Intn(len(kept))])
		}
		if q.Intn(2) == 0 {
			d.Turn(q.Intn(api.Slots), q.Intn(100))
		}
		m.r.Boot++
		switch e := d.Start(); e {
		case api.OK:
			back++
			is(t, d, m)
		case api.ErrRefused:
			refused++
			isDown(t, d, api.Refusing)
		default:
			t.Fatalf("Start: %d", e)
		}
	}
	if refused < 20 || back < 20 {
		t.Errorf("%d were refused, %d came back", refused, back)
	}
}

// What lies on the disk does not tell a secret by its bytes.
func TestSealed(t *testing.T) {
	d, _ := fresh(t)
	for i := range 9 {
		r := keep(i)
		r.Vault.Secret = []byte("a secret that is long enough")
		does(t, d, r, api.OK)
	}
	for n := range api.Slots {
		if b, _ := d.Disk().Get(n); bytes.Contains(b, []byte("secret")) {
			t.Errorf("slot %d tells the secret", n)
		}
	}
}
