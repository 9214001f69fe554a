package mend

import (
	"bytes"
	"slices"
	"testing"

	"stave/api"
	"stave/frame"
	"stave/journal"
	"stave/rack"
	"stave/stripe"
	"stave/super"
	"stave/volume"
)

// complete wants each disk that is online to have all frames of all groups, stored, and nothing else changed beyond them.
func (h history) complete(t *testing.T, name string, r *rack.Rack) {
	t.Helper()
	r.Boot()
	for group := range groupsOf(h.c) {
		for _, x := range h.places(group, r.Online()...) {
			if b, _ := r.Read(x.disk, x.sector); !bytes.Equal(b, frame.Put(x.f)) {
				t.Fatalf("%s: disk %d misses its frame of group %d at sector %d: % x", name, x.disk, group, x.sector, b)
			}
		}
	}
	beyond := stripeAt(h.c, h.c.Stripes)
	for _, d := range r.Online() {
		for i, b := range [][]byte{other(d), other(d + 5)} {
			if got, _ := r.Read(d, beyond+i); !bytes.Equal(got, b) && !bytes.Equal(got, zeroBytes(api.Sector)) {
				t.Fatalf("%s: disk %d has other bytes at sector %d", name, d, beyond+i)
			}
		}
	}
}

// setsOf tells the sets of so many disks out of n.
func setsOf(n, many int) (l [][]int) {
	for set := range 1 << n {
		if disks := disksOf(set); len(disks) == many {
			l = append(l, disks)
		}
	}
	return l
}

// noneMissing tells 0 for each group.
func noneMissing(c api.Config) []int { return make([]int, groupsOf(c)) }

// P13.6, T4: any N - K disks are replaced, then a round of Ticks, then any N - K others are gone: all is read as it was,
// also by an Open. Behind the round another one finds nothing.
func TestReplacedThenOthersGone(t *testing.T) {
	t.Parallel()
	for _, c := range []api.Config{plain(), config(1, 2, 3, 2), config(2, 3, 3, 2), config(1, 3, 2, 1), config(2, 4, 2, 3), config(3, 4, 2, 1), config(3, 3, 2, 2)} {
		for _, replaced := range setsOf(c.N, c.N-c.K) {
			for way, gone := range setsOf(c.N, c.N-c.K) {
				r, v, h := filled(t, c, 1+way%(2*c.Slots))
				for _, d := range replaced {
					r.Replace(d)
				}
				h.readsAll(t, "replaced", v)
				m := New(v)
				rounds(t, "replaced", m, v, misses(c, len(replaced))...)
				h.readsAll(t, "a round", v)
				h.complete(t, "a round", r)
				r.Arm(0)
				rounds(t, "another round", m, v, noneMissing(c)...)
				remain(t, "another round", r, 0)
				r.Boot()
				for _, d := range gone {
					if r.Die(d); way%2 == 1 {
						r.Replace(d)
					}
				}
				h.readsAll(t, "others are gone", v)
				w := opens(t, "others are gone", r)
				h.readsAll(t, "others are gone, opened", w)
				commits(t, "others are gone", w, rec(c.K, w.Seq()+1, 0))
			}
		}
	}
}

// P13.6: without a round of Ticks in between, that would be too many.
func TestReplacedThenOthersGoneTooSoon(t *testing.T) {
	c := config(2, 3, 2, 1)
	for ticks := range groupsOf(c) + 1 {
		r, v, h := filled(t, c, 2)
		r.Replace(0)
		m := New(v)
		for range ticks {
			if n, err := m.Tick(); n == 0 || err != nil {
				t.Errorf("the Tick is %d, %#v", n, err)
			}
		}
		r.Die(2)
		for s := range 2 {
			if ticks > stripeGroup(c, s) {
				reads(t, "mended", v, h.inStripe(s))
			} else if _, _, err := v.Read(s); !same(err, layer("volume.Read", s, lostStripe(c, s, 1))) {
				t.Errorf("stripe %d is read behind %d Ticks: %#v", s, ticks, err)
			}
		}
	}
}

// P13.6: disks die and are replaced one behind the other, with a round of Ticks behind each, till none of the first ones
// is left; all is read as it was.
func TestAllDisksInTurn(t *testing.T) {
	for _, c := range few() {
		if c.N == c.K {
			continue
		}
		r, v, h := filled(t, c, 2*c.Slots)
		m := New(v)
		for turn := range 3 * c.N {
			d := (5 * turn) % c.N
			r.Die(d)
			h.readsAll(t, "one is dead", v)
			rounds(t, "one is dead", m, v, noneMissing(c)...)
			r.Replace(d)
			rounds(t, "one is replaced", m, v, misses(c, 1)...)
			h.complete(t, "one is replaced", r)
		}
		h.readsAll(t, "all are replaced", opens(t, "all are replaced", r))
	}
}

// P13.6: a frame rots in each group, on another disk in each, as many of them as may; it does so again and again.
func TestRotInEachGroup(t *testing.T) {
	for _, c := range few() {
		spare := c.N - c.K
		r, v, h := filled(t, c, c.Slots)
		m := New(v)
		for turn := range 6 {
			for sector := range stripeAt(c, c.Stripes) {
				for i := range spare {
					d := (turn + sector + i) % c.N
					if !r.Rot(d, sector, (17*turn+sector)%125, 1<<(turn+sector+i)) {
						t.Errorf("sector %d of disk %d does not rot", sector, d)
					}
				}
			}
			h.readsAll(t, "rotten", v)
			want := misses(c, spare)
			rounds(t, "rotten", m, v, want...)
			h.readsAll(t, "mended", v)
			h.complete(t, "mended", r)
		}
	}
}

// P13.6: Commits between the Ticks of a round, of each stripe, behind each group: the round makes all frames good.
func TestCommitsBetweenTicks(t *testing.T) {
	t.Parallel()
	for _, c := range []api.Config{plain(), config(1, 2, 2, 1), config(2, 3, 3, 2), config(1, 3, 2, 4)} {
		for behind := range groupsOf(c) {
			for s := range c.Stripes {
				r, v, h := filled(t, c, 2)
				replaced := below(c.N - c.K)
				for _, d := range replaced {
					r.Replace(d)
				}
				want := misses(c, len(replaced))
				x := rec(c.K, 4, s)
				for _, group := range []int{slotGroup(4 % c.Slots), stripeGroup(c, s)} {
					if group > behind {
						want[group] = 0
					}
				}
				m := New(v)
				for group, n := range want {
					writes(t, "between", m, v, n)
					if group == behind {
						commits(t, "between", v, x)
						h.l = append(h.l, x)
					}
					h.readsAll(t, "between", v)
				}
				h.complete(t, "between", r)
				rounds(t, "behind it", m, v, noneMissing(c)...)
			}
		}
	}
}

// P13.6: a Commit behind each Tick, round after round, with disks dead and replaced in between
func TestACommitBehindEachTick(t *testing.T) {
	c := config(2, 4, 3, 2)
	r, v, h := filled(t, c, 1)
	m := New(v)
	for turn := range 12 {
		r.Die(turn % 4)
		for i := range groupsOf(c) {
			if i == turn/2 {
				r.Replace(turn % 4)
			}
			if _, err := m.Tick(); err != nil || v.Down() {
				t.Fatalf("turn %d: the Tick is %#v", turn, err)
			}
			x := rec(2, v.Seq()+1, (turn*i)%3)
			commits(t, "behind each", v, x)
			h.l = append(h.l, x)
			h.readsAll(t, "behind each", v)
		}
		for range groupsOf(c) {
			if _, err := m.Tick(); err != nil {
				t.Fatalf("turn %d: the Tick is %#v", turn, err)
			}
		}
		h.complete(t, "behind each", r)
	}
}

// P13.4 to P13.6: slots and stripes that are lost, each set of them, beside others that are not, round after round: the
// others are repaired, the lost ones stay as they are, and the volume is not Down.
func TestLostBesideOthers(t *testing.T) {
	t.Parallel()
	c := config(2, 3, 3, 2)
	for set := range 1 << 5 {
		r, v, h := filled(t, c, 3)
		lost := map[int]error{}
		for slot := range 2 {
			if set>>slot%2 == 1 {
				wipe(t, r, slotAt(c, slot, (set+slot)%2), 0, 1, 2)
				lost[slotGroup(slot)] = lostSlot(slot)
			}
		}
		for s := range 3 {
			if set>>(2+s)%2 == 1 {
				wipe(t, r, stripeAt(c, s), s, (s+1)%3)
				lost[stripeGroup(c, s)] = lostStripe(c, s, 1)
			}
		}
		m := New(v)
		for turn := range 3 {
			for group := range groupsOf(c) {
				l := h.places(group, turn)
				if lost[group] == nil {
					for _, x := range l {
						wipe(t, r, x.sector, x.disk)
					}
				}
			}
			was := sees(r)
			for group := range groupsOf(c) {
				want := len(h.places(group, turn))
				if lost[group] != nil {
					want = 0
				} else {
					for _, x := range h.places(group, turn) {
						was[x.disk][x.sector] = frame.Put(x.f)
					}
				}
				answers(t, "beside others", m, v, want, lost[group], false)
				looks(t, "beside others", r, was)
			}
			r.Arm(0)
			for group := range groupsOf(c) {
				answers(t, "again", m, v, 0, lost[group], false)
			}
			remain(t, "again", r, 0)
			r.Boot()
			looks(t, "again", r, was)
			for s := range 3 {
				if lost[stripeGroup(c, s)] == nil {
					reads(t, "beside others", v, h.inStripe(s))
				}
			}
		}
	}
}

// P13.4: a slot that is lost is lost till a commit overwrites it, and not for another slot's commit.
func TestLostSlotUntilACommit(t *testing.T) {
	for _, c := range []api.Config{config(1, 1, 2, 2), config(2, 3, 2, 3), plain()} {
		for slot := range c.Slots {
			r, v, h := filled(t, c, c.Slots)
			wipe(t, r, slotAt(c, slot, c.K-1), below(c.N)...)
			m := New(v)
			lost := true
			for range c.Slots {
				for group := range groupsOf(c) {
					var inner error
					if group == slotGroup(slot) && lost {
						inner = lostSlot(slot)
					}
					answers(t, "lost", m, v, 0, inner, false)
				}
				x := rec(c.K, v.Seq()+1, 1)
				commits(t, "lost", v, x)
				h.l = append(h.l, x)
				lost = lost && x.Seq%c.Slots != slot
			}
			rounds(t, "no more", m, v, noneMissing(c)...)
			h.complete(t, "no more", r)
		}
	}
}

// P13.6: a stripe that is lost is never written by a Commit; if enough of its frames come back, a Tick repairs it.
func TestLostStripeComesBack(t *testing.T) {
	c := config(2, 4, 2, 1)
	r, v, h := filled(t, c, 2)
	x := h.inStripe(1)
	wipe(t, r, stripeAt(c, 1), 0, 1, 3)
	m := New(v)
	for range 3 {
		for group := range groupsOf(c) {
			var inner error
			if group == stripeGroup(c, 1) {
				inner = lostStripe(c, 1, 1)
			}
			answers(t, "lost", m, v, 0, inner, false)
		}
		if err := v.Commit(1, blocks(2, 1)); !same(err, layer("volume.Commit", 1, lostStripe(c, 1, 1))) {
			t.Errorf("Commit is %#v", err)
		}
	}
	layStripe(t, r, c, x, 3)
	rounds(t, "back", m, v, 0, 0, 0, 2)
	h.complete(t, "back", r)
}

// damage is what has happened to a volume with K 2 and N 3 ahead of a round of Ticks.
type damage struct {
	name string
	do   func(t *testing.T, r *rack.Rack)
}

// damages tells some that the volume bears.
func damages(c api.Config) []damage {
	newer := rec(2, 4+c.Slots, 0)
	return []damage{
		{"disk 0 is replaced", func(t *testing.T, r *rack.Rack) { r.Replace(0) }},
		{"disk 1 is replaced", func(t *testing.T, r *rack.Rack) { r.Replace(1) }},
		{"disk 2 is replaced", func(t *testing.T, r *rack.Rack) { r.Replace(2) }},
		{"a frame of each group rotted", func(t *testing.T, r *rack.Rack) {
			for sector := range stripeAt(c, c.Stripes) {
				r.Rot(sector%3, sector, 5*sector, 3)
			}
		}},
		{"half a record, and a disk is replaced", func(t *testing.T, r *rack.Rack) {
			r.Replace(1)
			layRec(t, r, c, newer, 0, 0, 2)
		}},
		{"the other half of a record", func(t *testing.T, r *rack.Rack) { layRec(t, r, c, newer, 1, 1) }},
	}
}

// P13.6: Ticks cut short by a power failure at each operation of a round, with each set of what waits being stored, and
// then an Open: what is read is what was read ahead. Behind a round on what was opened, any other disk may go.
func TestTicksCutShort(t *testing.T) {
	c := config(2, 3, 3, 2)
	for way, x := range damages(c) {
		t.Run(x.name, func(t *testing.T) {
			t.Parallel()
			for fuse := 0; ; fuse++ {
				for kept := range 64 {
					if whole := cutShort(t, c, x, fuse, kept, (way+kept)%3); whole {
						return
					}
				}
			}
		})
	}
}

// cutShort wants a round that is cut short behind so many operations to do no harm, and tells whether it had fewer.
func cutShort(t *testing.T, c api.Config, x damage, fuse, kept, gone int) bool {
	t.Helper()
	r, v, h := filled(t, c, 3)
	m := New(v)
	x.do(t, r)
	h.readsAll(t, x.name, v)
	r.Arm(fuse)
	for range groupsOf(c) {
		if group := m.At(); !v.Down() {
			if _, err := m.Tick(); (err != nil) != v.Down() || r.Off() != v.Down() || m.At() == group {
				t.Fatalf("%s, fuse %d: the Tick of group %d is %#v, Down %v", x.name, fuse, group, err, v.Down())
			}
		}
	}
	whole := !r.Off()
	r.Boot(uint64(kept%4), uint64(kept/4%4), uint64(kept/16))
	v = opens(t, x.name, r)
	h.readsAll(t, x.name+", opened", v)
	m = New(v)
	for range groupsOf(c) {
		if _, err := m.Tick(); err != nil {
			t.Fatalf("%s, fuse %d: a Tick of the next round is %#v", x.name, fuse, err)
		}
	}
	h.readsAll(t, x.name+", a round", v)
	rounds(t, x.name+", another round", m, v, noneMissing(c)...)
	if r.Die(gone); fuse%2 == 1 {
		r.Replace(gone)
	}
	h.readsAll(t, x.name+", another disk is gone", opens(t, x.name, r))
	return whole
}

// P13.6: the same where the Open behind the power failure is not needed: the volume that is Down stays so, and reads of
// each disk alone tell nothing else than what was there or is wanted.
func TestTicksCutShortLeaveNothingElse(t *testing.T) {
	t.Parallel()
	c := config(2, 3, 2, 1)
	for fuse := range 16 {
		for kept := range 64 {
			r, v, h := filled(t, c, 2)
			m := New(v)
			r.Replace(1)
			was := sees(r)
			r.Arm(fuse)
			for range groupsOf(c) {
				m.Tick()
			}
			r.Boot(uint64(kept%4), uint64(kept/4%4), uint64(kept/16))
			at := m.At()
			if n, err := m.Tick(); v.Down() != (fuse < 15) || v.Down() && (n != 0 || !same(err, layer("mend.Tick", at, api.ErrDown))) {
				t.Errorf("fuse %d: Down %v, the next Tick is %d, %#v", fuse, v.Down(), n, err)
			}
			for group := range groupsOf(c) {
				for _, x := range h.places(group, 0, 1, 2) {
					b, _ := r.Read(x.disk, x.sector)
					if !bytes.Equal(b, was[x.disk][x.sector]) && (x.disk != 1 || !bytes.Equal(b, frame.Put(x.f))) {
						t.Fatalf("fuse %d: disk %d has other bytes at sector %d", fuse, x.disk, x.sector)
					}
				}
			}
		}
	}
}

// P13.4, P13.6: a slot of which a newer record was begun becomes unused: an Open behind it does not tell half of that
// record, and the stripes that were committed are read.
func TestUnusedSlotBehindATick(t *testing.T) {
	c := config(2, 3, 2, 2)
	for _, disks := range [][]int{{0}, {1, 2}, {0, 1, 2}} {
		for i := range 2 {
			r, v, h := filled(t, c, 2)
			layRec(t, r, c, rec(2, 6, 0), i, disks...)
			rounds(t, "half a record", New(v), v, 0, 6, 0, 0, 0)
			x, whole, newest, err := journal.Slot(r, c, 0)
			if x.Seq != 0 || !slices.Equal(x.Blocks, zeros(2)) || !whole || newest != 0 || err != nil {
				t.Errorf("Slot is Seq %d, %v, %d, %#v", x.Seq, whole, newest, err)
			}
			r.Boot()
			w := opens(t, "half a record", r)
			if w.Seq() != 3 {
				t.Errorf("the volume has Seq %d", w.Seq())
			}
			h.readsAll(t, "half a record", w)
		}
	}
}

// P13.6: a volume can be opened behind a round though the disks that had it are gone: the superblocks are on the others.
func TestSupersBehindARound(t *testing.T) {
	c := config(2, 4, 1, 1)
	r, v, h := filled(t, c, 2)
	r.Replace(2)
	r.Replace(3)
	rounds(t, "replaced", New(v), v, 2, 4, 2)
	r.Die(0)
	r.Die(1)
	if found, err := super.Find(r); found != c || err != nil {
		t.Errorf("Find is %v, %#v", found, err)
	}
	h.readsAll(t, "the first two are dead", opens(t, "the first two are dead", r))
	if gen, parts := stripe.Look(r, c, 0); gen != 3 || len(parts) != 2 {
		t.Errorf("Look is %d, %d parts", gen, len(parts))
	}
}

// P13.6, T4: long runs of Commits, Ticks, crashes, Opens and failures of disks, of which some N - K may fail at any time;
// which ones, changes behind each round of Ticks without a failure. What was committed is read all the time.
func TestLongLives(t *testing.T) {
	t.Parallel()
	for seed := range 120 {
		c := []api.Config{config(2, 3, 3, 2), config(1, 3, 2, 1), plain(), config(3, 4, 4, 4), config(2, 4, 2, 3), config(1, 2, 2, 2)}[seed%6]
		l := &life{t: t, h: history{c: c}, state: uint32(seed)}
		l.r, l.v = started(t, c)
		l.m = New(l.v)
		l.choose()
		for step := range 400 {
			l.act()
			l.check(step)
		}
		if l.whole < 3 {
			t.Errorf("seed %d: %d rounds", seed, l.whole)
		}
	}
}

// life is what has become of a volume. Of the disks, bad are those that may fail; clean is how many Ticks have gone by
// since one did, and whole how many rounds have been clean. A Commit that was cut short is maybe there.
type life struct {
	t     *testing.T
	h     history
	state uint32
	r     *rack.Rack
	v     *volume.Volume
	m     *Mend
	bad   []int
	clean int
	whole int
	maybe *api.Rec
}

// number tells some number below n.
func (l *life) number(n int) int {
	l.state = l.state*1664525 + 1013904223
	return int(l.state>>12) % n
}

// choose takes others for the disks that may fail: those that are dead, and as many more as may.
func (l *life) choose() {
	c := l.h.c
	l.bad = without(c.N, l.r.Online()...)
	for d := l.number(c.N); len(l.bad) < c.N-c.K; d = (d + 1) % c.N {
		if !slices.Contains(l.bad, d) {
			l.bad = append(l.bad, d)
		}
	}
	l.clean = 0
}

func (l *life) act() {
	l.t.Helper()
	c := l.h.c
	switch l.number(24) {
	case 0, 1, 2, 3:
		l.commit()
	case 4:
		l.r.Boot(uint64(l.state), uint64(l.state>>3), uint64(l.state>>7), 1, 2)
		l.v.Fail()
	case 5, 6, 7:
		if l.v.Down() || l.r.Off() {
			l.r.Boot(uint64(l.state>>5), uint64(l.state>>2), 6, 1, 3)
			l.open()
		}
	case 8, 9:
		l.fail(l.bad[l.number(len(l.bad))])
	case 10:
		l.r.Arm(l.number(60) - 3)
	case 11, 12, 13:
		for range groupsOf(c) {
			l.tick()
		}
	default:
		l.tick()
	}
}

// fail lets a disk die, be replaced, or rot.
func (l *life) fail(d int) {
	switch l.number(3) {
	case 0:
		l.r.Die(d)
	case 1:
		l.r.Replace(d)
	default:
		l.r.Rot(d, l.number(stripeAt(l.h.c, l.h.c.Stripes)), l.number(125), l.state|1)
	}
	l.clean = 0
}

// commit tries one, and takes down what came of it.
func (l *life) commit() {
	l.t.Helper()
	down := l.v.Down() || l.r.Off()
	x := rec(l.h.c.K, l.v.Seq()+1, l.number(l.h.c.Stripes))
	err := l.v.Commit(x.Stripe, x.Blocks)
	switch {
	case down:
		refused(l.t, "down", err, layer("volume.Commit", x.Stripe, api.ErrDown))
	case err == nil:
		l.h.l = append(l.h.l, x)
	case l.v.Down():
		l.maybe = &x
	default:
		l.t.Fatalf("Commit is %#v", err)
	}
}

// open opens the volume anew, with a Mend that begins anew, and takes down what came of a Commit that was cut short.
func (l *life) open() {
	l.t.Helper()
	l.v = opens(l.t, "a life", l.r)
	l.m, l.clean = New(l.v), 0
	if l.maybe == nil {
		return
	}
	if _, gen, _ := l.v.Read(l.maybe.Stripe); gen == l.maybe.Seq {
		l.h.l = append(l.h.l, *l.maybe)
	}
	l.maybe = nil
}

// tick does a Tick; behind as many clean ones as there are groups, other disks may fail.
func (l *life) tick() {
	l.t.Helper()
	down, group := l.v.Down() || l.r.Off(), l.m.At()
	_, err := l.m.Tick()
	switch {
	case down && (!same(err, layer("mend.Tick", group, api.ErrDown)) || l.m.At() != group):
		l.t.Fatalf("Tick is %#v, at %d", err, l.m.At())
	case !down && (err != nil) != l.r.Off(), !down && l.v.Down() != l.r.Off():
		l.t.Fatalf("%v: Tick is %#v, Down %v", l.h.c, err, l.v.Down())
	case err == nil:
		l.clean++
	}
	if l.clean == groupsOf(l.h.c) {
		l.whole++
		l.choose()
	}
}

// check wants all stripes to be as they should, if they can be read.
func (l *life) check(step int) {
	l.t.Helper()
	if l.v.Down() || l.r.Off() {
		return
	}
	for s := range l.h.c.Stripes {
		want := l.h.inStripe(s)
		if got, gen, err := l.v.Read(s); !slices.Equal(got, want.Blocks) || gen != want.Seq {
			l.t.Fatalf("%v, step %d: Read(%d) is other blocks, %d, %#v, want %d", l.h.c, step, s, gen, err, want.Seq)
		}
	}
}
