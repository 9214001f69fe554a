package tape

import (
	"bytes"
	"slices"
	"strconv"
	"testing"

	"stave/api"
	"stave/mend"
	"stave/rack"
	"stave/stripe"
	"stave/volume"
)

// model is a volume and a tape on it as the chapter says it: the used stripes are those below used.
type model struct {
	r    *rack.Rack
	v    *volume.Volume
	used int
}

// open does what the chapter says of Open. If it is refused, the model stays as it was.
func (m *model) open() ([][][]byte, error) {
	const op = "tape.Open"
	v, err := volume.Open(m.r)
	if err != nil {
		return nil, layer(op, 0, err)
	}
	var gens []int
	var l [][][]byte
	for s := range v.Config().Stripes {
		blocks, gen, _ := v.Read(s)
		gens = append(gens, gen)
		if gen > 1 {
			l = append(l, emptied(bytesOf(blocks)))
		}
	}
	for s := 1; s < len(gens); s++ {
		if gens[s] > 1 && slices.Contains(gens[:s], 1) {
			return nil, layer(op, 0, api.Loss{Group: s, Have: 0, Need: 1})
		}
	}
	m.v, m.used = v, len(l)
	return l, nil
}

// append does what the chapter says of Append.
func (m *model) append(l [][]byte) (int, error) {
	const op = "tape.Append"
	c, used := m.v.Config(), m.used
	big := len(l) == 0 || len(written(l)) > roomOf(c.K)
	for _, entry := range l {
		big = big || len(entry) == 0 || len(entry) > roomOf(c.K)-2
	}
	if big {
		return 0, layer(op, used, api.ErrBig)
	}
	if used == c.Stripes {
		return 0, layer(op, used, api.ErrFull)
	}
	if err := m.v.Commit(used, filled(c.K, l)); err != nil {
		return 0, layer(op, used, err)
	}
	m.used++
	return used, nil
}

// gets does what the chapter says of Get, with each of several numbers of entries: it tells what each Get does.
func (m *model) gets(s int, numbers []int) (l [][]byte, errs []error) {
	const op = "tape.Get"
	blocks, _, err := m.v.Read(s)
	entries := emptied(bytesOf(blocks))
	for _, i := range numbers {
		switch {
		case i < 0 || s < 0 || s > m.used-1:
			l, errs = append(l, nil), append(errs, layer(op, s, api.ErrNone))
		case err != nil:
			l, errs = append(l, nil), append(errs, layer(op, s, err))
		case i < len(entries):
			l, errs = append(l, entries[i]), append(errs, nil)
		default:
			l, errs = append(l, nil), append(errs, layer(op, s, api.ErrNone))
		}
	}
	return l, errs
}

// pair is a tape, and a model to which the same happens.
type pair struct {
	t *testing.T
	r *rack.Rack
	x *Tape
	m *model
}

// newPair wants two new tapes that are alike.
func newPair(t *testing.T, c api.Config) *pair {
	t.Helper()
	p := &pair{t: t, m: &model{r: made(t, c)}}
	p.r = made(t, c)
	p.open()
	return p
}

// both does something to both racks.
func (p *pair) both(do func(r *rack.Rack)) {
	do(p.r)
	do(p.m.r)
}

// open opens both anew, if that can be.
func (p *pair) open() bool {
	p.t.Helper()
	x, l, err := Open(p.r)
	want, wantErr := p.m.open()
	if !slices.EqualFunc(l, want, alike) || !same(err, wantErr) || (x == nil) != (err != nil) {
		p.t.Errorf("Open is %v, %q, %#v, want %q, %#v", x != nil, l, err, want, wantErr)
	}
	if x != nil {
		p.x = x
	}
	return x != nil
}

// append does an Append to both.
func (p *pair) append(l [][]byte) {
	p.t.Helper()
	s, err := p.x.Append(l)
	if want, wantErr := p.m.append(l); s != want || !same(err, wantErr) {
		p.t.Errorf("Append is %d, %#v, want %d, %#v", s, err, want, wantErr)
	}
}

// commit writes a stripe of both, beside the tape.
func (p *pair) commit(s int, l []api.Block) {
	p.t.Helper()
	if err, want := p.x.Volume().Commit(s, l), p.m.v.Commit(s, l); !same(err, want) {
		p.t.Errorf("Commit is %#v, want %#v", err, want)
	}
}

// tick mends both.
func (p *pair) tick() {
	for _, v := range []*volume.Volume{p.x.Volume(), p.m.v} {
		m := mend.New(v)
		for range mend.Groups(v.Config()) {
			m.Tick()
		}
	}
}

// heal makes all run again: by Open if that can be, else by Make and Open.
func (p *pair) heal() {
	p.t.Helper()
	c := p.x.Volume().Config()
	p.both(func(r *rack.Rack) {
		r.Boot(7)
		for d := range c.N {
			if !r.Up(d) {
				r.Replace(d)
			}
		}
	})
	if !p.open() {
		p.both(func(r *rack.Rack) { done(p.t, "Make", volume.Make(r, c)) })
		p.open()
	}
}

// heal is the act that lets all run again.
const heal = 21

// acts is how many things there are for act to do.
const acts = 28

// act does one of several things to both.
func (p *pair) act(what, step int) {
	p.t.Helper()
	c := p.x.Volume().Config()
	d, s := step%c.N, step%c.Stripes
	switch what {
	case 0:
		p.append(entriesOf(c.K, step))
	case 1:
		p.append([][]byte{some(roomOf(c.K)-2, step)})
	case 2:
		p.append([][]byte{some(roomOf(c.K)-1, step)})
	case 3:
		p.append(tooMuch()[step%len(tooMuch())])
	case 4:
		for range c.Stripes {
			p.append(entriesOf(c.K, 3*step))
		}
	case 5:
		p.open()
	case 6:
		p.both(func(r *rack.Rack) { r.Boot() })
	case 7:
		p.both(func(r *rack.Rack) { r.Boot(5, 3, 6) })
		p.open()
	case 8:
		p.both(func(r *rack.Rack) { r.Boot(1, 2) })
		p.open()
	case 9:
		p.both(func(r *rack.Rack) { r.Die(d) })
	case 10:
		p.both(func(r *rack.Rack) { r.Replace(d) })
	case 11:
		p.both(func(r *rack.Rack) { r.Replace((d + 1) % c.N) })
	case 12:
		p.both(func(r *rack.Rack) { r.Rot(d, 1+step%(c.Slots*c.K), 3*step%120, 5) })
	case 13:
		p.both(func(r *rack.Rack) { r.Rot(d, stripeAt(c, s), 3*step%120, 5) })
	case 14:
		p.both(func(r *rack.Rack) { r.Rot(d, stripeAt(c, 0), 3*step%120, 5) })
	case 15:
		p.commit(s, filled(c.K, entriesOf(c.K, 7*step)))
	case 16:
		p.commit((s+1)%c.Stripes, inBlocks(c.K, some(100, step)...))
	case 17:
		p.commit(0, inBlocks(c.K))
	case 18:
		p.both(func(r *rack.Rack) { stripe.Put(r, c, s, 1, inBlocks(c.K, 1, 0, 9)) })
	case 19:
		p.x.Volume().Fail()
		p.m.v.Fail()
	case 20:
		p.tick()
	case heal:
		p.heal()
	default:
		p.both(func(r *rack.Rack) { r.Arm([]int{-1, 0, 1, 5, 8, 14}[what-22]) })
	}
}

// like wants both to be alike.
func (p *pair) like(name string) bool {
	p.t.Helper()
	v, w := p.x.Volume(), p.m.v
	good := p.r.Off() == p.m.r.Off() && v.Rack() == p.r && v.Down() == w.Down() && v.Seq() == w.Seq() && p.x.Used() == p.m.used
	if !good {
		p.t.Errorf("%s: off %v, Down %v, Seq %d, %d used, want %v, %v, %d, %d",
			name, p.r.Off(), v.Down(), v.Seq(), p.x.Used(), p.m.r.Off(), w.Down(), w.Seq(), p.m.used)
	}
	numbers := []int{-1, 0, 1, 2, 4}
	for s := -1; s <= p.m.used+1; s++ {
		want, wantErr := p.m.gets(s, numbers)
		for n, i := range numbers {
			if b, err := p.x.Get(s, i); !bytes.Equal(b, want[n]) || !same(err, wantErr[n]) || err != nil && b != nil {
				p.t.Errorf("%s: Get(%d, %d) is %q, %#v, want %q, %#v", name, s, i, b, err, want[n], wantErr[n])
				good = false
			}
		}
	}
	want := sees(p.m.r)
	for d, disk := range sees(p.r) {
		if !slices.EqualFunc(disk, want[d], bytes.Equal) {
			p.t.Errorf("%s: disk %d is unlike the model's", name, d)
			good = false
		}
	}
	return good
}

// P14.4, P14.5: every run of three acts, and an Open and an Append behind it
func TestEveryRun(t *testing.T) {
	t.Parallel()
	for first := range acts {
		t.Run(strconv.Itoa(first), func(t *testing.T) {
			t.Parallel()
			for rest := range acts * acts {
				run(t, first, rest%acts, rest/acts)
			}
		})
	}
}

// run does acts to a tape that has had one Append.
func run(t *testing.T, l ...int) {
	t.Helper()
	p := newPair(t, config(2, 3, 3, 1))
	p.append(texts("one", "entry"))
	for step, what := range l {
		p.act(what, step+1)
	}
	good := p.like("a run")
	p.both(func(r *rack.Rack) { r.Boot(2, 1) })
	p.open()
	p.append(texts("behind"))
	if !p.like("a run, opened") || !good || t.Failed() {
		t.Fatalf("run %d", l)
	}
}

// P14.4, P14.5: long runs, of which each second act is an Append, an Open or one that lets the tape run
func TestLongRuns(t *testing.T) {
	t.Parallel()
	often := []int{0, 0, 0, 0, 1, 5, 20, heal}
	for seed := range 40 {
		t.Run(strconv.Itoa(seed), func(t *testing.T) {
			t.Parallel()
			p := newPair(t, []api.Config{config(2, 3, 5, 2), config(1, 3, 9, 3), config(3, 3, 4, 1), config(2, 4, 6, 4)}[seed%4])
			state := uint32(seed)
			for step := range 200 {
				state = state*1664525 + 1013904223
				what := int(state>>16) % (2 * acts)
				if what >= acts {
					what = often[what%len(often)]
				}
				p.act(what, step+1)
				if !p.like("a long run") || t.Failed() {
					t.Fatalf("step %d, act %d", step, what)
				}
			}
		})
	}
}
