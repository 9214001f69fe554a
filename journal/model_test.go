package journal

import (
	"maps"
	"slices"
	"testing"

	"stave/api"
	"stave/rack"
)

// modelDisk is a disk as the chapters say it, as far as its frames go: by sector, what is stored there and what waits.
// A sector with no frame has the zero Frame or no key.
type modelDisk struct {
	dead            bool
	stored, waiting map[int]api.Frame
}

// model is a rack as the chapters say it. Of remaining, -1: no power failure is armed.
type model struct {
	c         api.Config
	disks     []modelDisk
	off       bool
	remaining int
}

func newModel(c api.Config) *model {
	m := &model{c: c, disks: make([]modelDisk, c.N), remaining: -1}
	for d := range m.disks {
		m.replace(d, false)
	}
	return m
}

func (m *model) replace(d int, dead bool) {
	m.disks[d] = modelDisk{dead: dead, stored: map[int]api.Frame{}, waiting: map[int]api.Frame{}}
}

// reads tells the frame that a disk reads at a sector, or the zero Frame.
func (m *model) reads(d, sector int) api.Frame {
	disk := m.disks[d]
	if m.off || disk.dead {
		return api.Frame{}
	}
	if f, waits := disk.waiting[sector]; waits {
		return f
	}
	return disk.stored[sector]
}

// goesOn tells whether the next operation has an effect.
func (m *model) goesOn() bool {
	if m.off || m.remaining == 0 {
		m.off = true
		return false
	}
	if m.remaining > 0 {
		m.remaining--
	}
	return true
}

func (m *model) boot(bits ...uint64) {
	for d := range m.disks {
		disk := &m.disks[d]
		for at, sector := range slices.Sorted(maps.Keys(disk.waiting)) {
			if d < len(bits) && bits[d]>>at%2 == 1 {
				disk.stored[sector] = disk.waiting[sector]
			}
		}
		clear(disk.waiting)
	}
	m.off, m.remaining = false, -1
}

// store does what a Log or a Blank does and tells its error.
func (m *model) store(op string, n, slot int, x api.Rec) error {
	for d, disk := range m.disks {
		for i := range x.Blocks {
			if disk.dead {
				continue
			}
			if !m.goesOn() {
				return at(op, n, at("rack.Write", d, api.ErrDown))
			}
			disk.waiting[1+m.c.K*slot+i] = frameOf(x, i)
		}
	}
	for d, disk := range m.disks {
		if disk.dead {
			continue
		}
		if !m.goesOn() {
			return at(op, n, at("rack.Flush", d, api.ErrDown))
		}
		maps.Copy(disk.stored, disk.waiting)
		clear(disk.waiting)
	}
	return nil
}

// good tells whether f is good at place i of a slot, as P10.4 says it.
func (m *model) good(f api.Frame, slot, i int) bool {
	if f.Kind != 2 || f.Slot != i || f.Stripe > m.c.Stripes-1 || f.Gen == 1 {
		return false
	}
	return f.Gen == 0 || (f.Gen-slot)%m.c.Slots == 0
}

// first tells the data of the first good frame of this Gen and this stripe at place i, and whether there is one.
func (m *model) first(slot, i, gen, stripe int) (api.Block, bool) {
	for d := range m.disks {
		f := m.reads(d, 1+m.c.K*slot+i)
		if m.good(f, slot, i) && f.Gen == gen && f.Stripe == stripe {
			return f.Data, true
		}
	}
	return api.Block{}, false
}

// newest tells the greatest Gen of a slot and the stripe of the first such frame at the first place, -1 if there is
// none there; and false if the slot is lost.
func (m *model) newest(slot int) (gen, stripe int, found bool) {
	stripe = -1
	for i := range m.c.K {
		lost := true
		for d := range m.disks {
			if f := m.reads(d, 1+m.c.K*slot+i); m.good(f, slot, i) {
				lost, gen = false, max(gen, f.Gen)
			}
		}
		if lost {
			return 0, 0, false
		}
	}
	for d := range slices.Backward(m.disks) {
		if f := m.reads(d, 1+m.c.K*slot); m.good(f, slot, 0) && f.Gen == gen {
			stripe = f.Stripe
		}
	}
	return gen, stripe, true
}

// slot tells what Slot does.
func (m *model) slot(slot int) (api.Rec, bool, int, error) {
	gen, stripe, found := m.newest(slot)
	if !found {
		return api.Rec{}, false, 0, at("journal.Slot", slot, api.Loss{Group: slot, Need: 1})
	}
	x := api.Rec{Seq: gen, Stripe: stripe}
	for i := range m.c.K {
		b, ok := m.first(slot, i, gen, stripe)
		if !ok {
			return api.Rec{}, false, gen, nil
		}
		x.Blocks = append(x.Blocks, b)
	}
	return x, true, gen, nil
}

// like wants Slot to tell of each slot what the model does.
func (m *model) like(t *testing.T, name string, r *rack.Rack) bool {
	t.Helper()
	good := r.Off() == m.off
	for slot := range m.c.Slots {
		x, whole, newest, err := Slot(r, m.c, slot)
		want, wantWhole, wantNewest, wantErr := m.slot(slot)
		if !alike(x, want) || whole != wantWhole || newest != wantNewest || !same(err, wantErr) {
			t.Errorf("%s: Slot(%d) is Seq %d, Stripe %d, %v, %d, %#v, want Seq %d, Stripe %d, %v, %d, %#v",
				name, slot, x.Seq, x.Stripe, whole, newest, err, want.Seq, want.Stripe, wantWhole, wantNewest, wantErr)
			good = false
		}
	}
	return good
}

// P10.4: every way in which three disks have one of several frames at each of two places
func TestEverySetting(t *testing.T) {
	c := config(2, 3, 3, 2)
	thing := func(kind, i, d int) api.Frame {
		f := frameOf(api.Rec{Blocks: blocks(2, 10*d+kind)}, i)
		switch kind {
		case 1: // good, the newest
			f.Gen, f.Stripe = 5, 1
		case 2: // good, the newest, of another stripe
			f.Gen, f.Stripe = 5, 2
		case 3: // good, older
			f.Gen, f.Stripe = 3, 1
		case 4: // good, blank
		case 5: // not good, newer
			f.Gen, f.Stripe = 7, 3
		}
		return f
	}
	const things = 6
	sectors := map[api.Frame][]byte{}
	r := made(t, c, 0)
	for setting := range things * things * things * things * things * things {
		m := newModel(c)
		rest := setting
		for d := range 3 {
			for i := range 2 {
				b := make([]byte, api.Sector)
				if kind := rest % things; kind > 0 {
					f := thing(kind, i, d)
					if sectors[f] == nil {
						sectors[f] = bytesOf(f)
					}
					b, m.disks[d].stored[3+i] = sectors[f], f
				}
				done(t, "Write", r.Write(d, 3+i, b))
				rest /= things
			}
		}
		if !m.like(t, "a setting", r) {
			t.Fatalf("setting %d", setting)
		}
	}
}

// try does a Log or a Blank to a rack and to its model.
func try(t *testing.T, r *rack.Rack, m *model, s storing) {
	t.Helper()
	if err, want := s.call(r), m.store(s.op, s.at, s.slot, s.rec); !same(err, want) {
		t.Errorf("%s is %#v, want %#v", s.op, err, want)
	}
}

// odd lets a frame wait in a slot of a disk, in a rack and in its model.
func odd(r *rack.Rack, m *model, d, sector int, f api.Frame) {
	r.Write(d, sector, bytesOf(f))
	if !m.disks[d].dead && m.goesOn() {
		m.disks[d].waiting[sector] = f
	}
}

// act does one of several things to a rack and to its model.
func act(t *testing.T, r *rack.Rack, m *model, what, step int) {
	t.Helper()
	switch c := m.c; what {
	case 0, 1, 2:
		try(t, r, m, logging(c, rec(c.K, 2+step, step%c.Stripes)))
	case 3:
		try(t, r, m, logging(c, rec(c.K, 2, 0)))
	case 4:
		try(t, r, m, blanking(c, step%c.Slots))
	case 5:
		r.Boot()
		m.boot()
	case 6:
		r.Boot(5, 3, 6)
		m.boot(5, 3, 6)
	case 7:
		r.Die(step % c.N)
		m.replace(step%c.N, true)
	case 8:
		r.Replace(step % c.N)
		m.replace(step%c.N, false)
	case 9:
		if d, sector := step%c.N, 1+step%4; r.Rot(d, sector, 3*step%120, 5) {
			delete(m.disks[d].stored, sector)
		}
	case 10:
		odd(r, m, step%c.N, 1, frameOf(rec(c.K, 2*step, 1), 0))
	case 11:
		odd(r, m, step%c.N, 4, frameOf(rec(c.K, 2*step+1, 0), 1))
	case 12:
		odd(r, m, step%c.N, 3, api.Frame{Kind: api.KJournal, Gen: 3 + step%9, Stripe: step % 5})
	default:
		r.Arm(what - 13)
		m.remaining = what - 13
	}
}

// acts is how many things there are for act to do.
const acts = 20

// P10.2 to P10.5: every run of three acts
func TestEveryRun(t *testing.T) {
	c := config(2, 3, 3, 2)
	for run := range acts * acts * acts {
		r, m := made(t, c, 0), newModel(c)
		rest := run
		for step := range 3 {
			act(t, r, m, rest%acts, step+1)
			rest /= acts
		}
		if !m.like(t, "a run", r) {
			t.Fatalf("run %d", run)
		}
	}
}

// P10.2 to P10.5: long runs
func TestLongRuns(t *testing.T) {
	for seed := range 60 {
		c := config(2, 3, 3, 2)
		r, m := made(t, c, 0), newModel(c)
		state := uint32(seed)
		for step := range 300 {
			state = state*1664525 + 1013904223
			act(t, r, m, int(state>>16)%acts, step+1)
			if !m.like(t, "a long run", r) {
				t.Fatalf("seed %d, step %d", seed, step)
			}
		}
	}
}
