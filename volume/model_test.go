package volume

import (
	"maps"
	"slices"
	"strconv"
	"testing"

	"stave/api"
	"stave/code"
	"stave/frame"
	"stave/rack"
)

// modelDisk is a disk as the chapters say it, as far as its frames go: by sector, what is stored there and what waits.
// A sector with no frame has the zero Frame or no key.
type modelDisk struct {
	dead            bool
	stored, waiting map[int]api.Frame
}

// modelVolume is what a volume has, but for its rack.
type modelVolume struct {
	c    api.Config
	seq  int
	down bool
}

// model is a rack as the chapters say it, and the volume that was opened last. Of remaining, -1: no power failure is
// armed.
type model struct {
	sectors   int
	disks     []modelDisk
	off       bool
	remaining int
	v         *modelVolume
}

func newModel(n, sectors int) *model {
	m := &model{sectors: sectors, disks: make([]modelDisk, n), remaining: -1}
	for d := range m.disks {
		m.replace(d, false)
	}
	return m
}

func (m *model) replace(d int, dead bool) {
	m.disks[d] = modelDisk{dead: dead, stored: map[int]api.Frame{}, waiting: map[int]api.Frame{}}
}

func (m *model) online() (l []int) {
	for d, disk := range m.disks {
		if !disk.dead {
			l = append(l, d)
		}
	}
	return l
}

// reads tells the frame that a disk reads at a sector, or the zero Frame.
func (m *model) reads(d, sector int) api.Frame {
	disk := m.disks[d]
	if m.off || disk.dead {
		return api.Frame{}
	}
	if f, waits := disk.waiting[sector]; waits {
		return f
	}
	return disk.stored[sector]
}

// goesOn tells whether the next operation has an effect.
func (m *model) goesOn() bool {
	if m.off || m.remaining == 0 {
		m.off = true
		return false
	}
	if m.remaining > 0 {
		m.remaining--
	}
	return true
}

func (m *model) boot(bits ...uint64) {
	for d := range m.disks {
		disk := &m.disks[d]
		for at, sector := range slices.Sorted(maps.Keys(disk.waiting)) {
			if d < len(bits) && bits[d]>>at%2 == 1 {
				disk.stored[sector] = disk.waiting[sector]
			}
		}
		clear(disk.waiting)
	}
	m.off, m.remaining = false, -1
}

// store writes frames from a sector on to some disks and flushes these.
func (m *model) store(disks []int, sector int, frames func(d int) []api.Frame) error {
	for _, d := range disks {
		for i, f := range frames(d) {
			if !m.goesOn() {
				return at("rack.Write", d, api.ErrDown)
			}
			m.disks[d].waiting[sector+i] = f
		}
	}
	for _, d := range disks {
		if !m.goesOn() {
			return at("rack.Flush", d, api.ErrDown)
		}
		maps.Copy(m.disks[d].stored, m.disks[d].waiting)
		clear(m.disks[d].waiting)
	}
	return nil
}

// wrapped tells err with a layer around it, if it is one.
func wrapped(op string, n int, err error) error {
	if err == nil {
		return nil
	}
	return at(op, n, err)
}

// record stores x in a slot.
func (m *model) record(c api.Config, slot int, x api.Rec) error {
	return m.store(m.online(), 1+slot*c.K, func(int) (l []api.Frame) {
		for i := range c.K {
			l = append(l, recFrame(x, i))
		}
		return l
	})
}

func (m *model) log(c api.Config, x api.Rec) error {
	return wrapped("journal.Log", x.Seq, m.record(c, x.Seq%c.Slots, x))
}

func (m *model) blank(c api.Config, slot int) error {
	return wrapped("journal.Blank", slot, m.record(c, slot, api.Rec{Blocks: zeros(c.K)}))
}

func (m *model) put(c api.Config, x api.Rec) error {
	fragments := fragmentsOf(c, x.Blocks)
	return wrapped("stripe.Put", x.Stripe, m.store(m.online(), 1+c.Slots*c.K+x.Stripe, func(d int) []api.Frame {
		return []api.Frame{{Kind: 3, Slot: d, Stripe: x.Stripe, Gen: x.Seq, Data: fragments[d]}}
	}))
}

// make does what Make does, if c fits.
func (m *model) make(c api.Config) error {
	const op = "volume.Make"
	if m.off || len(m.online()) < len(m.disks) {
		return at(op, 0, api.ErrUnavail)
	}
	err := m.store(m.online(), 0, func(int) []api.Frame { return make([]api.Frame, 1) })
	for slot := 0; slot < c.Slots && err == nil; slot++ {
		err = m.blank(c, slot)
	}
	for s := 0; s < c.Stripes && err == nil; s++ {
		err = m.put(c, api.Rec{Seq: 1, Stripe: s, Blocks: zeros(c.K)})
	}
	for d := 0; d < c.N && err == nil; d++ {
		err = wrapped("super.Put", d, m.store([]int{d}, 0, func(int) []api.Frame { return []api.Frame{superFrame(c, d)} }))
	}
	return wrapped(op, 0, err)
}

// find tells the configuration that the first disk with a superblock has. All that the model has are right.
func (m *model) find(configs ...api.Config) (api.Config, error) {
	has := func(d int, c api.Config) bool { return m.reads(d, 0) == superFrame(c, d) }
	for d := range m.disks {
		for _, c := range configs {
			if !has(d, c) {
				continue
			}
			have := 0
			for e := range m.disks {
				if has(e, c) {
					have++
				}
			}
			if have < c.K {
				return api.Config{}, at("super.Find", have, api.ErrUnavail)
			}
			return c, nil
		}
	}
	return api.Config{}, at("super.Find", 0, api.ErrUnavail)
}

// goodOnes tells the frames that are good at place i of a slot, as P10.4 says it.
func (m *model) goodOnes(c api.Config, slot, i int) (l []api.Frame) {
	for d := range m.disks {
		f := m.reads(d, 1+slot*c.K+i)
		if f.Kind == 2 && f.Slot == i && f.Stripe < c.Stripes && f.Gen != 1 && (f.Gen == 0 || f.Gen%c.Slots == slot) {
			l = append(l, f)
		}
	}
	return l
}

// slot tells what a slot has: its newest Seq, and of that the record or nil, or an error.
func (m *model) slot(c api.Config, slot int) (newest int, x *api.Rec, err error) {
	for i := range c.K {
		l := m.goodOnes(c, slot, i)
		if len(l) == 0 {
			return 0, nil, lostSlot(slot)
		}
		for _, f := range l {
			newest = max(newest, f.Gen)
		}
	}
	x = &api.Rec{Seq: newest, Stripe: -1}
	for i := range c.K {
		found := false
		for _, f := range m.goodOnes(c, slot, i) {
			if !found && f.Gen == newest && (x.Stripe == -1 || x.Stripe == f.Stripe) {
				found = true
				x.Stripe = f.Stripe
				x.Blocks = append(x.Blocks, f.Data)
			}
		}
		if !found {
			return newest, nil, nil
		}
	}
	return newest, x, nil
}

// look tells the greatest generation of a stripe, and the fragments of it.
func (m *model) look(c api.Config, s int) (gen int, parts []api.Part) {
	for d := range m.disks {
		f := m.reads(d, 1+c.Slots*c.K+s)
		if f.Kind != 3 || f.Slot != d || f.Stripe != s || f.Gen == 0 || f.Gen < gen {
			continue
		}
		if f.Gen > gen {
			gen, parts = f.Gen, nil
		}
		parts = append(parts, api.Part{At: d, Data: f.Data[:]})
	}
	return gen, parts
}

// get tells what stripe.Get does.
func (m *model) get(c api.Config, s int) ([]api.Block, int, error) {
	const op = "stripe.Get"
	if s < 0 || s > c.Stripes-1 {
		return nil, 0, at(op, s, api.ErrArg)
	}
	gen, parts := m.look(c, s)
	if m.off || len(m.online()) < c.K {
		return nil, 0, at(op, s, api.ErrUnavail)
	}
	if len(parts) < c.K {
		return nil, 0, lostStripe(c, s, len(parts))
	}
	return blocksOf(c, parts), gen, nil
}

// blocksOf tells the blocks of which these are fragments.
func blocksOf(c api.Config, parts []api.Part) (l []api.Block) {
	erasure, err := code.New(c.K, c.N)
	if err != nil {
		panic(err)
	}
	out, err := erasure.Decode(parts...)
	if err != nil {
		panic(err)
	}
	for _, b := range out {
		l = append(l, api.Block(b))
	}
	return l
}

// open does what Open does: if it opens a volume, that is the model's.
func (m *model) open(configs ...api.Config) error {
	v, err := m.opened(configs...)
	if err == nil {
		m.v = v
	}
	return wrapped("volume.Open", 0, err)
}

func (m *model) opened(configs ...api.Config) (*modelVolume, error) {
	if m.off {
		return nil, api.ErrDown
	}
	c, err := m.find(configs...)
	if err != nil {
		return nil, err
	}
	v := &modelVolume{c: c, seq: 1}
	records := map[int]api.Rec{}
	for slot := range c.Slots {
		newest, x, err := m.slot(c, slot)
		if err != nil {
			return nil, err
		}
		v.seq = max(v.seq, newest)
		if x == nil {
			err = m.blank(c, slot)
		} else if x.Seq > 1 {
			records[x.Seq] = *x
			err = m.log(c, *x)
		}
		if err != nil {
			return nil, err
		}
	}
	for _, seq := range slices.Sorted(maps.Keys(records)) {
		if gen, _ := m.look(c, records[seq].Stripe); gen <= seq {
			if err := m.put(c, records[seq]); err != nil {
				return nil, err
			}
		}
	}
	for s := range c.Stripes {
		_, gen, err := m.get(c, s)
		if err != nil {
			return nil, err
		}
		v.seq = max(v.seq, gen)
	}
	return v, nil
}

// commit does what Commit does.
func (m *model) commit(s int, l []api.Block) error {
	const op = "volume.Commit"
	v := m.v
	_, _, err := m.get(v.c, s)
	switch {
	case s < 0 || s > v.c.Stripes-1 || len(l) != v.c.K:
		return at(op, s, api.ErrArg)
	case v.down || m.off:
		return at(op, s, api.ErrDown)
	case len(m.online()) < v.c.K:
		return at(op, s, api.ErrUnavail)
	case v.seq == 1<<60:
		return at(op, s, api.ErrFull)
	case err != nil:
		return at(op, s, err)
	}
	v.seq++
	x := api.Rec{Seq: v.seq, Stripe: s, Blocks: l}
	if m.log(v.c, x) != nil || m.put(v.c, x) != nil {
		v.down = true
		return at(op, s, api.ErrDown)
	}
	return nil
}

// read tells what Read does.
func (m *model) read(s int) ([]api.Block, int, error) {
	if m.v.down {
		return nil, 0, at("volume.Read", s, api.ErrDown)
	}
	l, gen, err := m.get(m.v.c, s)
	return l, gen, wrapped("volume.Read", s, err)
}

// pair is a rack with the volume that was opened last, and the model of both.
type pair struct {
	t *testing.T
	r *rack.Rack
	v *Volume
	m *model
}

// modelConfigs tells the configurations of the volumes that are made, which all fit a rack of three disks with ten
// sectors.
func modelConfigs() []api.Config {
	return []api.Config{{Id: 1, K: 2, N: 3, Stripes: 3, Slots: 2}, {Id: 2, K: 1, N: 3, Stripes: 4, Slots: 3}, {Id: 3, K: 3, N: 3, Stripes: 2, Slots: 1}}
}

// newPair wants a volume of the configuration with this number.
func newPair(t *testing.T, number int) *pair {
	t.Helper()
	r, err := rack.New(3, 10)
	done(t, "New", err)
	p := &pair{t: t, r: r, m: newModel(3, 10)}
	p.make(number)
	p.open()
	return p
}

// make does a Make to both.
func (p *pair) make(number int) {
	p.t.Helper()
	c := modelConfigs()[number]
	if err, want := Make(p.r, c), p.m.make(c); !same(err, want) {
		p.t.Errorf("Make is %#v, want %#v", err, want)
	}
}

// open does an Open to both.
func (p *pair) open() {
	p.t.Helper()
	v, err := Open(p.r)
	want := p.m.open(modelConfigs()...)
	if !same(err, want) || (v == nil) != (want != nil) {
		p.t.Errorf("Open is %v, %#v, want %#v", v, err, want)
	}
	if v != nil {
		p.v = v
	}
}

// commit does a Commit to both.
func (p *pair) commit(s, step int) {
	p.t.Helper()
	l := blocks(p.m.v.c.K, step)
	if err, want := p.v.Commit(s, l), p.m.commit(s, l); !same(err, want) {
		p.t.Errorf("Commit is %#v, want %#v", err, want)
	}
}

// refuse wants Commits to be refused, whatever has happened.
func (p *pair) refuse(step int) {
	p.t.Helper()
	c := p.m.v.c
	for _, x := range []api.Rec{{Stripe: -1, Blocks: zeros(c.K)}, {Stripe: c.Stripes, Blocks: zeros(c.K)}, {Blocks: zeros(c.K - 1)}, {Blocks: zeros(c.K + 1)}} {
		if err := p.v.Commit(x.Stripe, x.Blocks); !same(err, at("volume.Commit", x.Stripe, api.ErrArg)) {
			p.t.Errorf("Commit is %#v", err)
		}
	}
}

// odd lets a frame wait at a sector of a disk, or bytes 0 if it is the zero Frame.
func (p *pair) odd(d, sector int, f api.Frame) {
	b := frame.Put(f)
	if b == nil {
		b = make([]byte, api.Sector)
	}
	p.r.Write(d, sector, b)
	if !p.m.disks[d].dead && p.m.goesOn() {
		p.m.disks[d].waiting[sector] = f
	}
}

// oddStripe lets a fragment of a stripe wait, of a generation that is no commit's and of which each step has its own.
func (p *pair) oddStripe(d, s, gen int) {
	c := p.m.v.c
	p.odd(d, 1+c.Slots*c.K+s, stripeFrame(c, api.Rec{Seq: gen, Stripe: s, Blocks: blocks(c.K, gen)}, d))
}

// rot lets a sector of a disk rot.
func (p *pair) rot(d, sector, step int) {
	if p.r.Rot(d, sector, 3*step%120, 5) {
		delete(p.m.disks[d].stored, sector)
	}
}

// boot boots both.
func (p *pair) boot(bits ...uint64) {
	p.r.Boot(bits...)
	p.m.boot(bits...)
}

// heal makes all run again: by Open if that can be, else by Make and Open.
func (p *pair) heal(number int) {
	p.t.Helper()
	p.boot(7)
	for d, disk := range p.m.disks {
		if disk.dead {
			p.r.Replace(d)
			p.m.replace(d, false)
		}
	}
	was := p.m.v
	if p.open(); p.m.v == was {
		p.make(number)
		p.open()
	}
}

// heal is the act that lets all run again.
const heal = 17

// acts is how many things there are for act to do.
const acts = 27

// act does one of several things to both.
func (p *pair) act(what, step int) {
	p.t.Helper()
	c := p.m.v.c
	d, s := step%3, step%c.Stripes
	switch what {
	case 0:
		p.commit(s, step)
	case 1:
		p.commit(0, step)
	case 2:
		p.open()
	case 3:
		p.boot()
	case 4:
		p.boot(5, 3, 6)
	case 5:
		p.boot(2, 1)
		p.open()
	case 6:
		p.r.Die(d)
		p.m.replace(d, true)
	case 7:
		p.r.Replace(d)
		p.m.replace(d, false)
	case 8:
		p.rot(d, 1+step%(c.Slots*c.K), step)
	case 9:
		p.rot(d, 1+c.Slots*c.K+s, step)
	case 10:
		p.rot(d, 0, step)
	case 11:
		p.odd(d, 1, recFrame(rec(2, 12*step, s), 0))
	case 12:
		p.odd(d, 2, recFrame(rec(2, 4+step, 0), 1))
	case 13:
		p.odd(d, 1+step%6, api.Frame{})
	case 14:
		p.oddStripe(d, s, 2000*step)
	case 15:
		p.odd(d, 0, superFrame(modelConfigs()[step%3], d))
	case 16:
		p.make(step % 3)
	case heal:
		p.heal(step % 3)
	case 18:
		p.v.Fail()
		p.m.v.down = true
	case 19:
		p.refuse(step)
	default:
		fuse := []int{-1, 0, 1, 4, 8, 11, 17}[what-20]
		p.r.Arm(fuse)
		p.m.remaining = fuse
	}
}

// like wants both to tell the same, and their disks to have the same frames.
func (p *pair) like(name string) bool {
	p.t.Helper()
	m := p.m
	good := p.r.Off() == m.off && p.v.Config() == m.v.c && p.v.Rack() == p.r && p.v.Seq() == m.v.seq && p.v.Down() == m.v.down
	if !good {
		p.t.Errorf("%s: the volume has %v, Seq %d, Down %v, want %v, Seq %d, Down %v",
			name, p.v.Config(), p.v.Seq(), p.v.Down(), m.v.c, m.v.seq, m.v.down)
	}
	for s := -1; s <= m.v.c.Stripes; s++ {
		l, gen, err := p.v.Read(s)
		want, wantGen, wantErr := m.read(s)
		if !slices.Equal(l, want) || gen != wantGen || !same(err, wantErr) {
			p.t.Errorf("%s: Read(%d) is %d blocks, %d, %#v, want %d, %d, %#v", name, s, len(l), gen, err, len(want), wantGen, wantErr)
			good = false
		}
	}
	for d := range m.disks {
		for sector := range m.sectors {
			b, _ := p.r.Read(d, sector)
			if f, _ := frame.Get(b); f != m.reads(d, sector) {
				p.t.Errorf("%s: disk %d has %v at sector %d, want %v", name, d, f, sector, m.reads(d, sector))
				good = false
			}
		}
	}
	return good
}

// P12.1 to P12.5: every run of three acts, and an Open behind it
func TestEveryRun(t *testing.T) {
	for first := range acts {
		t.Run(strconv.Itoa(first), func(t *testing.T) {
			t.Parallel()
			for rest := range acts * acts {
				run(t, first, rest%acts, rest/acts)
			}
		})
	}
}

// run does acts to a volume that has had one commit, and then opens it.
func run(t *testing.T, l ...int) {
	t.Helper()
	p := newPair(t, 0)
	p.commit(1, 50)
	for step, what := range l {
		p.act(what, step+1)
	}
	good := p.like("a run")
	p.boot(1, 2)
	p.open()
	if !p.like("a run, opened") || !good || t.Failed() {
		t.Fatalf("run %d", l)
	}
}

// P12.1 to P12.5: long runs, of which each second act is one that lets the volume run or lets it have more to tell
func TestLongRuns(t *testing.T) {
	t.Parallel()
	often := []int{0, 0, 0, 1, 2, heal}
	for seed := range 120 {
		p := newPair(t, seed%3)
		state := uint32(seed)
		for step := range 300 {
			state = state*1664525 + 1013904223
			what := int(state>>16) % (2 * acts)
			if what >= acts {
				what = often[what%len(often)]
			}
			p.act(what, step+1)
			if !p.like("a long run") || t.Failed() {
				t.Fatalf("seed %d, step %d", seed, step)
			}
		}
	}
}
