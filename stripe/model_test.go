package stripe

import (
	"bytes"
	"maps"
	"slices"
	"testing"

	"stave/api"
	"stave/rack"
)

// modelDisk is a disk as the chapters say it, as far as its frames go: by sector, what is stored there and what waits.
// A sector with no frame has the zero Frame or no key.
type modelDisk struct {
	dead            bool
	stored, waiting map[int]api.Frame
}

// model is a rack as the chapters say it. Of remaining, -1: no power failure is armed.
type model struct {
	c         api.Config
	disks     []modelDisk
	off       bool
	remaining int
}

func newModel(c api.Config) *model {
	m := &model{c: c, disks: make([]modelDisk, c.N), remaining: -1}
	for d := range m.disks {
		m.replace(d, false)
	}
	return m
}

func (m *model) replace(d int, dead bool) {
	m.disks[d] = modelDisk{dead: dead, stored: map[int]api.Frame{}, waiting: map[int]api.Frame{}}
}

// place tells the sector of stripe s.
func (m *model) place(s int) int { return s + m.c.K*m.c.Slots + 1 }

// reads tells the frame that a disk reads at a sector, or the zero Frame.
func (m *model) reads(d, sector int) api.Frame {
	disk := m.disks[d]
	if m.off || disk.dead {
		return api.Frame{}
	}
	if f, waits := disk.waiting[sector]; waits {
		return f
	}
	return disk.stored[sector]
}

// goesOn tells whether the next operation has an effect.
func (m *model) goesOn() bool {
	if m.off || m.remaining == 0 {
		m.off = true
		return false
	}
	if m.remaining > 0 {
		m.remaining--
	}
	return true
}

func (m *model) boot(bits ...uint64) {
	for d := range m.disks {
		disk := &m.disks[d]
		for at, sector := range slices.Sorted(maps.Keys(disk.waiting)) {
			if d < len(bits) && bits[d]>>at%2 == 1 {
				disk.stored[sector] = disk.waiting[sector]
			}
		}
		clear(disk.waiting)
	}
	m.off, m.remaining = false, -1
}

// put does what Put does and tells its error.
func (m *model) put(x put) error {
	for d, disk := range m.disks {
		if disk.dead {
			continue
		}
		if !m.goesOn() {
			return at("stripe.Put", x.s, at("rack.Write", d, api.ErrDown))
		}
		disk.waiting[m.place(x.s)] = x.frame(d)
	}
	for d, disk := range m.disks {
		if disk.dead {
			continue
		}
		if !m.goesOn() {
			return at("stripe.Put", x.s, at("rack.Flush", d, api.ErrDown))
		}
		maps.Copy(disk.stored, disk.waiting)
		clear(disk.waiting)
	}
	return nil
}

// has tells the frame that a disk has of stripe s, or the zero Frame.
func (m *model) has(d, s int) api.Frame {
	f := m.reads(d, m.place(s))
	if f.Kind != 3 || f.Slot != d || f.Stripe != s {
		return api.Frame{}
	}
	return f
}

// look tells what Look does.
func (m *model) look(s int) (gen int, parts []api.Part) {
	for d := range m.disks {
		gen = max(gen, m.has(d, s).Gen)
	}
	for d := range m.disks {
		if f := m.has(d, s); gen > 0 && f.Gen == gen {
			parts = append(parts, api.Part{At: d, Data: f.Data[:]})
		}
	}
	return gen, parts
}

// get tells what Get does, if each generation of a stripe has the blocks that version tells.
func (m *model) get(s int) ([]api.Block, int, error) {
	online := 0
	for _, disk := range m.disks {
		if !disk.dead {
			online++
		}
	}
	gen, parts := m.look(s)
	switch {
	case m.off || online < m.c.K:
		return nil, 0, at("stripe.Get", s, api.ErrUnavail)
	case len(parts) < m.c.K:
		return nil, 0, at("stripe.Get", s, api.Loss{Group: s, Have: len(parts), Need: m.c.K})
	}
	return version(m.c.K, s, gen).blocks, gen, nil
}

// like wants Look and Get to tell of each stripe what the model does.
func (m *model) like(t *testing.T, name string, r *rack.Rack) bool {
	t.Helper()
	good := r.Off() == m.off
	for s := range m.c.Stripes {
		gen, parts := Look(r, m.c, s)
		wantGen, wantParts := m.look(s)
		alike := func(p, q api.Part) bool { return p.At == q.At && bytes.Equal(p.Data, q.Data) }
		if gen != wantGen || !slices.EqualFunc(parts, wantParts, alike) {
			t.Errorf("%s: Look(%d) is %d, %d parts, want %d, %d", name, s, gen, len(parts), wantGen, len(wantParts))
			good = false
		}
		l, gen, err := Get(r, m.c, s)
		want, wantGen, wantErr := m.get(s)
		if !slices.Equal(l, want) || gen != wantGen || !same(err, wantErr) {
			t.Errorf("%s: Get(%d) is %d blocks, %d, %#v, want %d, %d, %#v", name, s, len(l), gen, err, len(want), wantGen, wantErr)
			good = false
		}
	}
	return good
}

// things tells what a disk may have where stripe 1 stands: the frame, or the zero Frame, and what is read there.
func things(d int) (frames []api.Frame, sectors [][]byte) {
	frame := func(change func(f *api.Frame)) {
		f := version(2, 1, 5).frame(d)
		change(&f)
		frames, sectors = append(frames, f), append(sectors, bytesOf(f))
	}
	frame(func(f *api.Frame) {})
	frame(func(f *api.Frame) { *f = version(2, 1, 6).frame(d) })
	frame(func(f *api.Frame) { *f = version(2, 1, 1<<60).frame(d) })
	frame(func(f *api.Frame) { f.Gen = 0 })
	frame(func(f *api.Frame) { f.Gen, f.Stripe = 7, 0 })
	frame(func(f *api.Frame) { f.Gen, f.Slot = 7, (d+1)%4 })
	frame(func(f *api.Frame) { f.Gen, f.Kind = 7, 2 })
	rotten := bytesOf(version(2, 1, 7).frame(d))
	rotten[20+d] ^= 4
	return append(frames, api.Frame{}), append(sectors, rotten)
}

// P11.3 to P11.5: every way in which four disks are dead or have one of several things
func TestEverySetting(t *testing.T) {
	c := config(2, 4, 2, 1)
	var frames [4][]api.Frame
	var sectors [4][][]byte
	for d := range 4 {
		frames[d], sectors[d] = things(d)
	}
	ways := len(frames[0]) + 1
	for setting := range ways * ways * ways * ways {
		r, m := made(t, c, 0), newModel(c)
		rest := setting
		for d := range 4 {
			if way := rest % ways; way < len(frames[d]) {
				done(t, "Write", r.Write(d, 4, sectors[d][way]))
				m.disks[d].stored[4] = frames[d][way]
			} else {
				r.Die(d)
				m.replace(d, true)
			}
			rest /= ways
		}
		if !m.like(t, "a setting", r) {
			t.Fatalf("setting %d", setting)
		}
	}
}

// odd lets a frame wait at the sector of a stripe on a disk, in a rack and in its model.
func odd(r *rack.Rack, m *model, d, s int, f api.Frame) {
	r.Write(d, place(m.c, s), bytesOf(f))
	if !m.disks[d].dead && m.goesOn() {
		m.disks[d].waiting[m.place(s)] = f
	}
}

// try does a Put to a rack and to its model.
func try(t *testing.T, r *rack.Rack, m *model, x put) {
	t.Helper()
	if err, want := x.to(r, m.c), m.put(x); !same(err, want) {
		t.Errorf("Put is %#v, want %#v", err, want)
	}
}

// refuse wants a Put to be refused, whatever has happened to the rack.
func refuse(t *testing.T, r *rack.Rack, m *model, x put) {
	t.Helper()
	if err := x.to(r, m.c); !same(err, at("stripe.Put", x.s, api.ErrArg)) {
		t.Errorf("Put is %#v", err)
	}
}

// act does one of several things to a rack and to its model.
func act(t *testing.T, r *rack.Rack, m *model, what, step int) {
	t.Helper()
	c := m.c
	d, s := step%c.N, step%c.Stripes
	switch what {
	case 0, 1, 2:
		try(t, r, m, version(c.K, s, step))
	case 3:
		try(t, r, m, version(c.K, 0, 1+step%3))
	case 4:
		refuse(t, r, m, version(c.K, s, 0))
		refuse(t, r, m, version(c.K, c.Stripes, step))
	case 5:
		r.Boot()
		m.boot()
	case 6:
		r.Boot(5, 3, 6)
		m.boot(5, 3, 6)
	case 7:
		r.Die(d)
		m.replace(d, true)
	case 8:
		r.Replace(d)
		m.replace(d, false)
	case 9:
		if r.Rot(d, place(c, s), 3*step%120, 5) {
			delete(m.disks[d].stored, m.place(s))
		}
	case 10:
		odd(r, m, d, 0, version(c.K, 0, 2*step).frame(d))
	case 11:
		odd(r, m, d, 1, version(c.K, 1, step/2+1).frame(d))
	case 12:
		odd(r, m, d, s, version(c.K, s, 9*step).frame((d+1)%c.N))
	case 13:
		odd(r, m, d, s, version(c.K, (s+1)%c.Stripes, 9*step).frame(d))
	case 14:
		odd(r, m, d, s, api.Frame{Kind: api.KStripe, Slot: d, Stripe: s})
	default:
		r.Arm(what - 15)
		m.remaining = what - 15
	}
}

// acts is how many things there are for act to do.
const acts = 22

// P11.2 to P11.5: every run of three acts
func TestEveryRun(t *testing.T) {
	c := config(2, 3, 2, 2)
	for run := range acts * acts * acts {
		r, m := made(t, c, 0), newModel(c)
		rest := run
		for step := range 3 {
			act(t, r, m, rest%acts, step+1)
			rest /= acts
		}
		if !m.like(t, "a run", r) {
			t.Fatalf("run %d", run)
		}
	}
}

// P11.2 to P11.5: long runs
func TestLongRuns(t *testing.T) {
	for seed := range 60 {
		c := []api.Config{config(2, 3, 2, 2), config(1, 3, 3, 1), config(3, 5, 2, 1)}[seed%3]
		r, m := made(t, c, 0), newModel(c)
		state := uint32(seed)
		for step := range 300 {
			state = state*1664525 + 1013904223
			act(t, r, m, int(state>>16)%acts, step+1)
			if !m.like(t, "a long run", r) {
				t.Fatalf("seed %d, step %d", seed, step)
			}
		}
	}
}
