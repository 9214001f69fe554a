package mend

import (
	"bytes"
	"slices"
	"strconv"
	"testing"

	"stave/api"
	"stave/fault"
	"stave/frame"
	"stave/journal"
	"stave/rack"
	"stave/stripe"
	"stave/super"
	"stave/volume"
)

// model is a volume and a Mend of it as the chapter says it: next is the group that is next.
type model struct {
	r    *rack.Rack
	v    *volume.Volume
	next int
}

// tick does what the chapter says of a Tick. The wanted frames are those that the lower packages store on another rack.
func (m *model) tick() (int, error) {
	const op = "mend.Tick"
	c, group := m.v.Config(), m.next
	if m.v.Down() || m.r.Off() {
		return 0, layer(op, group, api.ErrDown)
	}
	if m.next++; m.next == groupsOf(c) {
		m.next = 0
	}
	var n int
	var err error
	switch slot, s := group-1, group-1-c.Slots; {
	case group == 0:
		n, err = m.supers(c)
	case s < 0:
		n, err = m.slot(c, slot)
	default:
		n, err = m.stripe(c, s)
	}
	if err == nil {
		return n, nil
	}
	if fault.Kind(err) == api.ErrDown {
		m.v.Fail()
	}
	return n, layer(op, group, err)
}

func (m *model) supers(c api.Config) (n int, err error) {
	for d := range c.N {
		if x, ok := super.Get(m.r, d); !m.r.Up(d) || ok && x == c {
			continue
		}
		if err := super.Put(m.r, c, d); err != nil {
			return n, err
		}
		n++
	}
	return n, nil
}

func (m *model) slot(c api.Config, slot int) (int, error) {
	x, whole, _, err := journal.Slot(m.r, c, slot)
	if err != nil {
		return 0, err
	}
	return m.store(c, slotAt(c, slot, 0), c.K, func(ideal *rack.Rack) {
		switch {
		case !whole:
			journal.Blank(ideal, c, slot)
		case x.Seq > 1:
			journal.Log(ideal, c, x)
		default:
			for d := range c.N {
				for i := range c.K {
					ideal.Write(d, slotAt(c, slot, i), frame.Put(recFrame(x, i)))
				}
			}
		}
	})
}

func (m *model) stripe(c api.Config, s int) (int, error) {
	l, gen, err := stripe.Get(m.r, c, s)
	if err != nil {
		return 0, err
	}
	return m.store(c, stripeAt(c, s), 1, func(ideal *rack.Rack) { stripe.Put(ideal, c, s, gen, l) })
}

// store makes so many sectors like those of a rack that has all that is wanted.
func (m *model) store(c api.Config, sector, many int, fill func(ideal *rack.Rack)) (n int, err error) {
	ideal, err := rack.New(c.N, m.r.Sectors())
	if err != nil {
		return 0, err
	}
	fill(ideal)
	for d := range c.N {
		for at := sector; at < sector+many && m.r.Up(d); at++ {
			b, _ := ideal.Read(d, at)
			if was, _ := m.r.Read(d, at); bytes.Equal(was, b) {
				continue
			}
			if err := m.r.Write(d, at, b); err != nil {
				return n, err
			}
			n++
		}
	}
	for d := 0; d < c.N && n > 0; d++ {
		if m.r.Up(d) {
			if err := m.r.Flush(d); err != nil {
				return n, err
			}
		}
	}
	return n, nil
}

// pair is a volume with its Mend, and a model of both to which the same happens.
type pair struct {
	t *testing.T
	r *rack.Rack
	v *volume.Volume
	m *Mend
	o *model
}

// newPair wants two new volumes that are alike.
func newPair(t *testing.T, c api.Config) *pair {
	t.Helper()
	p := &pair{t: t, o: &model{}}
	p.r, p.v = started(t, c)
	p.o.r, p.o.v = started(t, c)
	p.m = New(p.v)
	return p
}

// both does something to both racks.
func (p *pair) both(do func(r *rack.Rack)) {
	do(p.r)
	do(p.o.r)
}

// tick does a Tick of both.
func (p *pair) tick() {
	p.t.Helper()
	n, err := p.m.Tick()
	if want, wantErr := p.o.tick(); n != want || !same(err, wantErr) {
		p.t.Errorf("Tick is %d, %#v, want %d, %#v", n, err, want, wantErr)
	}
}

// commit does a Commit to both.
func (p *pair) commit(s, step int) {
	p.t.Helper()
	l := blocks(p.v.Config().K, step)
	if err, want := p.v.Commit(s, l), p.o.v.Commit(s, l); !same(err, want) {
		p.t.Errorf("Commit is %#v, want %#v", err, want)
	}
}

// open opens both anew, if that can be. The Mend begins anew then.
func (p *pair) open() {
	p.t.Helper()
	v, err := volume.Open(p.r)
	o, want := volume.Open(p.o.r)
	if !same(err, want) {
		p.t.Errorf("Open is %#v, want %#v", err, want)
	}
	if v != nil && o != nil {
		p.v, p.m, p.o.v, p.o.next = v, New(v), o, 0
	}
}

// odd lets a frame wait at a sector of a disk, or bytes 0 if it is not valid.
func (p *pair) odd(d, sector int, f api.Frame) {
	b := frame.Put(f)
	if b == nil {
		b = make([]byte, api.Sector)
	}
	p.both(func(r *rack.Rack) { r.Write(d, sector, b) })
}

// heal makes all run again: by Open if that can be, else by Make and Open.
func (p *pair) heal() {
	p.t.Helper()
	was := p.v
	c := was.Config()
	p.both(func(r *rack.Rack) {
		r.Boot(7)
		for d := range c.N {
			if !r.Up(d) {
				r.Replace(d)
			}
		}
	})
	if p.open(); p.v == was {
		p.both(func(r *rack.Rack) {
			if err := volume.Make(r, c); err != nil {
				p.t.Errorf("Make is %#v", err)
			}
		})
		p.open()
	}
}

// heal is the act that lets all run again.
const heal = 19

// acts is how many things there are for act to do.
const acts = 26

// act does one of several things to both.
func (p *pair) act(what, step int) {
	p.t.Helper()
	c := p.v.Config()
	d, s := step%c.N, step%c.Stripes
	switch what {
	case 0:
		p.tick()
	case 1:
		for range 1 + step%groupsOf(c) {
			p.tick()
		}
	case 2:
		for range groupsOf(c) {
			p.tick()
		}
	case 3:
		p.commit(s, step)
	case 4:
		p.open()
	case 5:
		p.both(func(r *rack.Rack) { r.Boot() })
	case 6:
		p.both(func(r *rack.Rack) { r.Boot(5, 3, 6) })
		p.open()
	case 7:
		p.both(func(r *rack.Rack) { r.Die(d) })
	case 8:
		p.both(func(r *rack.Rack) { r.Replace(d) })
	case 9:
		p.both(func(r *rack.Rack) { r.Replace((d + 1) % c.N) })
	case 10:
		p.both(func(r *rack.Rack) { r.Rot(d, 1+step%(c.Slots*c.K), 3*step%120, 5) })
	case 11:
		p.both(func(r *rack.Rack) { r.Rot(d, stripeAt(c, s), 3*step%120, 5) })
	case 12:
		p.both(func(r *rack.Rack) { r.Rot(d, 0, 3*step%120, 5) })
	case 13:
		p.odd(d, 1, recFrame(rec(2, 12*step, s), 0))
	case 14:
		p.odd(d, 2, recFrame(rec(2, 4+step, 0), 1))
	case 15:
		p.odd(d, 1+step%6, api.Frame{})
	case 16:
		p.odd(d, stripeAt(c, s), stripeFrame(c, api.Rec{Seq: 4 + step%3, Stripe: s, Blocks: blocks(c.K, step)}, d))
	case 17:
		p.odd(d, slotAt(c, 0, step%c.K), api.Frame{Kind: 2, Slot: step % c.K, Stripe: step % 5, Gen: 0})
	case 18:
		other := c
		other.Id += step % 2
		p.odd(d, 0, superFrame(other, d))
	case heal:
		p.heal()
	case 20:
		p.v.Fail()
		p.o.v.Fail()
	default:
		p.both(func(r *rack.Rack) { r.Arm([]int{-1, 0, 1, 3, 6}[what-21]) })
	}
}

// like wants both to be alike.
func (p *pair) like(name string) bool {
	p.t.Helper()
	good := p.r.Off() == p.o.r.Off() && p.v.Down() == p.o.v.Down() && p.m.At() == p.o.next && p.v.Seq() == p.o.v.Seq()
	if !good {
		p.t.Errorf("%s: off %v, Down %v, at %d, want %v, %v, %d", name, p.r.Off(), p.v.Down(), p.m.At(), p.o.r.Off(), p.o.v.Down(), p.o.next)
	}
	want := sees(p.o.r)
	for d, disk := range sees(p.r) {
		if !slices.EqualFunc(disk, want[d], bytes.Equal) {
			p.t.Errorf("%s: disk %d is unlike the model's", name, d)
			good = false
		}
	}
	return good
}

// P13.1 to P13.5: every run of three acts, a round of Ticks behind it, and another one behind Boot
func TestEveryRun(t *testing.T) {
	for first := range acts {
		t.Run(strconv.Itoa(first), func(t *testing.T) {
			t.Parallel()
			for rest := range acts * acts {
				run(t, first, rest%acts, rest/acts)
			}
		})
	}
}

// run does acts to a volume that has had two commits.
func run(t *testing.T, l ...int) {
	t.Helper()
	p := newPair(t, config(2, 3, 2, 1))
	p.commit(1, 50)
	p.commit(0, 60)
	for step, what := range l {
		p.act(what, step+1)
	}
	good := p.like("a run")
	p.act(2, 1)
	good = p.like("a run and a round") && good
	p.both(func(r *rack.Rack) { r.Boot(2, 1) })
	p.open()
	p.act(2, 1)
	if !p.like("a run, opened") || !good || t.Failed() {
		t.Fatalf("run %d", l)
	}
}

// P13.1 to P13.5: long runs, of which each second act is a Tick, a Commit or one that lets the volume run
func TestLongRuns(t *testing.T) {
	t.Parallel()
	often := []int{0, 0, 0, 1, 2, 3, 3, heal}
	for seed := range 120 {
		p := newPair(t, []api.Config{config(2, 3, 3, 2), config(1, 3, 4, 3), config(3, 3, 2, 1), config(2, 4, 3, 4)}[seed%4])
		state := uint32(seed)
		for step := range 250 {
			state = state*1664525 + 1013904223
			what := int(state>>16) % (2 * acts)
			if what >= acts {
				what = often[what%len(often)]
			}
			p.act(what, step+1)
			if !p.like("a long run") || t.Failed() {
				t.Fatalf("seed %d, step %d, act %d", seed, step, what)
			}
		}
	}
}
