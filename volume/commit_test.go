package volume

import (
	"errors"
	"math"
	"slices"
	"testing"

	"stave/api"
	"stave/fault"
	"stave/frame"
	"stave/journal"
	"stave/rack"
	"stave/stripe"
)

// P12.3: what a Commit leaves, written out: the record in its slot and the stripe, on each disk, flushed
func TestCommitWrittenOut(t *testing.T) {
	c := config(2, 3, 3, 2)
	r, v := started(t, c)
	want := sees(r)
	l := zeros(2)
	l[0][0], l[1][0] = 1, 2
	l[1][107] = 3
	done(t, "Commit", v.Commit(1, l))
	for d, data := range [][2]byte{
		{1, 0},
		{2, 3},
		// The inverse of 2 is 0x8e and that of 3 is 0xf4: 0x8e + 2 * 0xf4, and 3 * 0xf4.
		{0x8e ^ 0xf5, 1},
	} {
		// 2 leaves 0 if it is divided by 2, and slot 0 is at sectors 1 and 2; stripe 1 is at sector 6.
		for i := range 2 {
			want[d][1+i] = summed(slices.Concat([]byte{0x53, 0x54, 2, byte(i), 1, 0, 0, 0, 2, 0, 0, 0, 0, 0, 0, 0}, l[i][:])...)
		}
		want[d][6] = summed(slices.Concat([]byte{0x53, 0x54, 3, byte(d), 1, 0, 0, 0, 2, 0, 0, 0, 0, 0, 0, 0},
			[]byte{data[0]}, zeroBytes(106), []byte{data[1]})...)
	}
	stands(t, "Commit", r, want)
	r.Boot()
	stands(t, "Commit and booted", r, want)
	has(t, "Commit", v, r, c, 2, false)
}

// P12.3: Commits one behind the other, more than there are slots, for each K and each number of disks: each leaves its
// record, its stripe and nothing else, and Open opens what they left.
func TestCommitsInTurn(t *testing.T) {
	for _, c := range configs() {
		r, v := started(t, c)
		want := sees(r)
		var l []api.Rec
		for seq := 2; seq < 4+2*c.Slots; seq++ {
			x := rec(c.K, seq, (seq*seq/3)%c.Stripes)
			commits(t, "in turn", v, x)
			l = append(l, x)
			for _, o := range operations(logging(c, x, below(c.N)...), putting(c, x, below(c.N)...)) {
				if !o.flush {
					want[o.disk][o.sector] = o.b
				}
			}
			r.Boot()
			stands(t, "in turn", r, want)
			readsAll(t, "in turn", v, l...)
			slotsHave(t, r, c, l)
		}
		v = opens(t, "in turn", r, c, 3+2*c.Slots)
		stands(t, "opened", r, want)
		readsAll(t, "opened", v, l...)
		commits(t, "opened", v, rec(c.K, 4+2*c.Slots, 0))
	}
}

// slotsHave wants each slot to have the last of these records whose turn it was.
func slotsHave(t *testing.T, r *rack.Rack, c api.Config, l []api.Rec) {
	t.Helper()
	for slot := range c.Slots {
		want := api.Rec{Blocks: zeros(c.K)}
		for _, x := range l {
			if x.Seq%c.Slots == slot {
				want = x
			}
		}
		x, whole, newest, err := journal.Slot(r, c, slot)
		if x.Seq != want.Seq || x.Stripe != want.Stripe || !slices.Equal(x.Blocks, want.Blocks) || !whole || newest != want.Seq || err != nil {
			t.Errorf("Slot(%d) is Seq %d, %v, %d, %#v, want Seq %d", slot, x.Seq, whole, newest, err, want.Seq)
		}
	}
}

// deaths tells sets of disks that are dead, so that k are left.
func deaths(c api.Config) [][]int {
	l := [][]int{nil}
	if c.N-c.K > 0 {
		l = append(l, []int{0}, []int{c.N - 1})
	}
	if c.N-c.K > 1 {
		l = append(l, []int{1}, []int{0, c.N - 1})
	}
	return l
}

// P12.3: the order of a Commit's operations, by a power failure at each: first the journal's, then the stripe's. Each
// failure is ErrDown in one layer, the volume is Down, and Seq has increased.
func TestCommitOrder(t *testing.T) {
	for _, c := range few() {
		for _, dead := range deaths(c) {
			x := rec(c.K, 4, c.Stripes-1)
			online := without(c.N, dead...)
			prepare := func() (*rack.Rack, func() error) {
				r, v := started(t, c)
				commits(t, "before", v, rec(c.K, 2, 0))
				commits(t, "before", v, rec(c.K, 3, c.Stripes-1))
				for _, d := range dead {
					r.Die(d)
				}
				return r, func() error {
					err := v.Commit(x.Stripe, x.Blocks)
					has(t, "Commit", v, r, c, 4, err != nil)
					return err
				}
			}
			trial{
				name:    "Commit",
				prepare: prepare,
				refusal: func(operation) error { return at("volume.Commit", x.Stripe, api.ErrDown) },
				l:       operations(logging(c, x, online...), putting(c, x, online...)),
			}.ordered(t)
		}
	}
}

// P12.3: a Commit uses up as many operations as it has, and no more.
func TestCommitOperationsUsedUp(t *testing.T) {
	for _, c := range configs() {
		for more := range 2 {
			r, v := started(t, c)
			r.Arm(c.K*c.N + c.N + 2*c.N + more)
			commits(t, "Commit", v, rec(c.K, 2, c.Stripes-1))
			remain(t, "Commit", r, more)
		}
	}
}

// P12.3: the layers of the error of a Commit that is cut short: none of the rack's
func TestCommitErrorLayers(t *testing.T) {
	c := config(2, 3, 3, 2)
	for n := range 15 {
		r, v := started(t, c)
		r.Arm(n)
		err := v.Commit(2, blocks(2, 3))
		if path := fault.Path(err); !slices.Equal(path, []string{"volume.Commit"}) {
			t.Errorf("operation %d: %q", n, path)
		}
		if op, place, ok := fault.Where(err); op != "volume.Commit" || place != 2 || !ok || !errors.Is(err, api.ErrDown) {
			t.Errorf("operation %d: %s, %d, %v", n, op, place, ok)
		}
	}
}

// P12.3, P12.4: behind a Commit that was cut short the volume stays Down, also behind Boot, and tells what it had; Open
// tells another one.
func TestCommitDown(t *testing.T) {
	c := config(2, 3, 3, 2)
	x := rec(2, 2, 1)
	for n := range 15 {
		r, v := started(t, c)
		commits(t, "the first", v, x)
		r.Arm(n)
		refused(t, "cut short", v.Commit(0, blocks(2, 8)), at("volume.Commit", 0, api.ErrDown))
		for range 2 {
			has(t, "cut short", v, r, c, 3, true)
			for s := -1; s <= 3; s++ {
				readRefused(t, "cut short", v, s, api.ErrDown)
			}
			commitRefused(t, "cut short", v, rec(2, 4, 1), api.ErrDown)
			r.Boot()
			was := sees(r)
			r.Arm(0)
			commitRefused(t, "cut short and booted", v, rec(2, 4, 1), api.ErrDown)
			stands(t, "cut short and booted", r, was)
			remain(t, "cut short and booted", r, 0)
		}
		r.Boot()
		w, err := Open(r)
		if err != nil || w.Down() {
			t.Fatalf("Open is %#v", err)
		}
		reads(t, "opened anew", w, x)
		has(t, "cut short", v, r, c, 3, true)
	}
}

// wrongRecs tells stripes and blocks that the configuration plain does not have, for one reason or for both.
func wrongRecs() (l []api.Rec) {
	wrong := []int{-1, 4, 5, -2, -4, 64, 256, 1 << 32, -1 << 32, math.MaxInt, math.MinInt, math.MinInt + 1}
	for _, many := range []int{2, 1, 3, 0, 4, 100} {
		for _, s := range wrong {
			l = append(l, api.Rec{Stripe: s, Blocks: blocks(many, 3)}, api.Rec{Stripe: s})
		}
		for s := range 4 {
			if many != 2 {
				l = append(l, api.Rec{Stripe: s, Blocks: blocks(many, 3)}, api.Rec{Stripe: s})
			}
		}
	}
	return l
}

// P12.3: stripes and blocks beyond their edges, one and both of them, change nothing and use up no operation.
func TestCommitArguments(t *testing.T) {
	c := plain()
	for _, x := range wrongRecs() {
		r := filled(t)
		v := opens(t, "filled", r, c, 5)
		harmless(t, "Commit", r, func() error { return v.Commit(x.Stripe, x.Blocks) }, at("volume.Commit", x.Stripe, api.ErrArg))
		has(t, "Commit", v, r, c, 5, false)
		commits(t, "the next", v, rec(2, 6, 3))
	}
}

// P12.3: the stripes and the number of blocks at their edges, for each K and each number of disks
func TestCommitAtTheEdges(t *testing.T) {
	for _, c := range configs() {
		_, v := started(t, c)
		for _, s := range []int{-1, c.Stripes} {
			commitRefused(t, "no stripe", v, rec(c.K, 2, s), api.ErrArg)
		}
		for _, many := range []int{c.K - 1, c.K + 1, 0} {
			commitRefused(t, "no blocks", v, rec(many, 2, 0), api.ErrArg)
		}
		commits(t, "the first", v, rec(c.K, 2, 0))
		commits(t, "the last", v, rec(c.K, 3, c.Stripes-1))
		readsAll(t, "the edges", v, rec(c.K, 2, 0), rec(c.K, 3, c.Stripes-1))
	}
	c := config(1, 2, 64, 4)
	_, v := started(t, c)
	commits(t, "the greatest stripe", v, rec(1, 2, 63))
	commitRefused(t, "beyond it", v, rec(1, 3, 64), api.ErrArg)
	readsAll(t, "the greatest stripe", v, rec(1, 2, 63))
}

// P12.3: each reason to refuse a Commit, and each set of them: the first one in the order is told, nothing changes, and
// Seq stays.
func TestCommitErrorsInOrder(t *testing.T) {
	c := plain()
	for set := 1; set < 1<<6; set++ {
		holds := func(i int) bool { return set>>i%2 == 1 }
		r := filled(t)
		seq := 5
		if holds(4) {
			seq = 1 << 60
			done(t, "Put", stripe.Put(r, c, 3, seq, blocks(2, 2)))
		}
		v := opens(t, "filled", r, c, seq)
		x := rec(2, 6, 1)
		var want []error
		if holds(0) {
			x.Blocks = blocks(3, 1)
			want = append(want, api.ErrArg)
		}
		if holds(5) {
			rots(t, r, stripeAt(c, 1), 0, 1, 2, 4)
		}
		if holds(1) {
			v.Fail()
			want = append(want, api.ErrDown)
		}
		if holds(2) {
			off(t, r)
			want = append(want, api.ErrDown)
		}
		if holds(3) {
			for d := range 4 {
				r.Die(d)
			}
			want = append(want, api.ErrUnavail)
		}
		if holds(4) {
			want = append(want, api.ErrFull)
		}
		want = append(want, lostStripe(c, 1, 1))
		harmless(t, "Commit", r, func() error { return v.Commit(1, x.Blocks) }, at("volume.Commit", 1, want[0]))
		has(t, "Commit", v, r, c, seq, holds(1))
	}
}

// P12.3: as many disks online as are needed, and one fewer, for each K and each number of disks, and for each set of
// them
func TestCommitOnline(t *testing.T) {
	for _, c := range configs() {
		for first := range c.N {
			r, v := started(t, c)
			seq := 1
			for i := range c.N + 1 {
				s := i % c.Stripes
				if len(r.Online()) >= c.K {
					seq++
					commits(t, "enough", v, rec(c.K, seq, s))
					reads(t, "enough", v, rec(c.K, seq, s))
				} else {
					commitRefused(t, "too few", v, rec(c.K, seq, s), api.ErrUnavail)
				}
				r.Die((first + i) % c.N)
			}
		}
	}
	c := plain()
	for set := range 1 << c.N {
		r, v := started(t, c)
		for _, d := range disksOf(set) {
			r.Die(d)
		}
		if len(r.Online()) < 2 {
			commitRefused(t, "too few", v, rec(2, 2, 3), api.ErrUnavail)
			continue
		}
		commits(t, "enough", v, rec(2, 2, 3))
		readsAll(t, "enough", v, rec(2, 2, 3))
	}
}

// P12.3: a disk that was replaced has its frames of the next Commit.
func TestCommitReplaced(t *testing.T) {
	c := plain()
	r, v := started(t, c)
	r.Replace(0)
	r.Die(2)
	r.Replace(2)
	r.Die(4)
	x := rec(2, 2, 1)
	commits(t, "replaced", v, x)
	for _, d := range []int{0, 2} {
		want := sees(racked(t, c, 0))[d]
		for i := range 2 {
			want[slotAt(c, 2, i)] = frame.Put(recFrame(x, i))
		}
		want[stripeAt(c, 1)] = frame.Put(stripeFrame(c, x, d))
		if got := sees(r)[d]; !slices.EqualFunc(got, want, slices.Equal[[]byte]) {
			t.Errorf("disk %d has other frames", d)
		}
	}
	readsAll(t, "replaced", v, x)
	r.Die(1)
	r.Die(3)
	reads(t, "two that were replaced", v, x)
}

// P12.3: the greatest Seq is used once, and then no other.
func TestCommitFull(t *testing.T) {
	for slots := 1; slots <= 4; slots++ {
		c := config(2, 3, 2, slots)
		r := made(t, c)
		done(t, "Put", stripe.Put(r, c, 0, 1<<60-2, blocks(2, 1)))
		v := opens(t, "two are left", r, c, 1<<60-2)
		commits(t, "one is left", v, rec(2, 1<<60-1, 1))
		commits(t, "none is left", v, rec(2, 1<<60, 0))
		for s := range 2 {
			was := sees(r)
			r.Arm(0)
			commitRefused(t, "none is left", v, rec(2, 1<<60+1, s), api.ErrFull)
			stands(t, "none is left", r, was)
			remain(t, "none is left", r, 0)
			r.Boot()
		}
		readsAll(t, "none is left", v, rec(2, 1<<60-1, 1), rec(2, 1<<60, 0))
		v = opens(t, "opened", r, c, 1<<60)
		commitRefused(t, "opened", v, rec(2, 1<<60+1, 1), api.ErrFull)
		readsAll(t, "opened", v, rec(2, 1<<60-1, 1), rec(2, 1<<60, 0))
	}
}

// P12.3: a Commit that takes the greatest Seq and is cut short leaves a volume that is Down, and full if it is opened.
func TestCommitFullCutShort(t *testing.T) {
	c := config(1, 2, 2, 1)
	r := made(t, c)
	done(t, "Put", stripe.Put(r, c, 0, 1<<60-1, blocks(1, 1)))
	v := opens(t, "one is left", r, c, 1<<60-1)
	r.Arm(3)
	refused(t, "cut short", v.Commit(1, blocks(1, 5)), at("volume.Commit", 1, api.ErrDown))
	has(t, "cut short", v, r, c, 1<<60, true)
	r.Boot()
	v = opens(t, "opened", r, c, 1<<60)
	reads(t, "opened", v, api.Rec{Seq: 1 << 60, Stripe: 1, Blocks: blocks(1, 5)})
	commitRefused(t, "opened", v, rec(1, 2, 0), api.ErrFull)
}

// P12.3: a stripe that is lost is not written; the others are.
func TestCommitLost(t *testing.T) {
	for _, c := range []api.Config{plain(), config(1, 2, 2, 1), config(2, 3, 3, 2), config(3, 3, 2, 1)} {
		for s := range c.Stripes {
			for have := range c.K {
				r, v := started(t, c)
				rots(t, r, stripeAt(c, s), below(c.N)[have:]...)
				was := sees(r)
				r.Arm(0)
				commitRefused(t, "lost", v, rec(c.K, 2, s), lostStripe(c, s, have))
				losing(t, "lost", v.Commit(s, blocks(c.K, 2)), api.Loss{Group: s, Have: have, Need: c.K})
				stands(t, "lost", r, was)
				remain(t, "lost", r, 0)
				r.Boot()
				has(t, "lost", v, r, c, 1, false)
				seq := 1
				for o := range c.Stripes {
					if o != s {
						seq++
						commits(t, "another", v, rec(c.K, seq, o))
						reads(t, "another", v, rec(c.K, seq, o))
					}
				}
				readRefused(t, "lost", v, s, lostStripe(c, s, have))
			}
		}
	}
}

// P12.3: a stripe of which a newer generation was begun is lost too; K parts are enough to write it.
func TestCommitOverParts(t *testing.T) {
	c := plain()
	r, v := started(t, c)
	layStripe(t, r, c, rec(2, 9, 2), 3)
	commitRefused(t, "one part", v, rec(2, 2, 2), lostStripe(c, 2, 1))
	layStripe(t, r, c, rec(2, 9, 2), 1)
	commits(t, "two parts", v, rec(2, 2, 2))
	reads(t, "two parts", v, rec(2, 2, 2))
}

// cut is a Commit that a power failure cuts short: behind how many operations, and what of that which waits is stored,
// by disk a set of its sectors.
type cut struct {
	fuse int
	kept []uint64
}

// cuts tells all of a Commit with K 2 and N 3, whose operations are six writes and three flushes of the journal and as
// many of the stripe.
func cuts() (l []cut) {
	for fuse := range 16 {
		ways := 64
		if fuse >= 9 {
			ways = 8
		}
		for way := range ways {
			kept := []uint64{uint64(way % 4), uint64(way / 4 % 4), uint64(way / 16)}
			if fuse >= 9 {
				kept = []uint64{uint64(way % 2), uint64(way / 2 % 2), uint64(way / 4)}
			}
			l = append(l, cut{fuse, kept})
		}
	}
	return l
}

// stores tells whether disk d has frame i of the record behind the cut.
func (x cut) stores(d, i int) bool {
	return x.fuse > 6+d || x.fuse > 2*d+i && x.kept[d]>>i%2 == 1
}

// whole tells whether all of the record is there behind the cut if one of the disks is gone, and part whether any is.
func (x cut) whole(gone int) bool {
	return slices.ContainsFunc(without(3, gone), func(d int) bool { return x.stores(d, 0) }) &&
		slices.ContainsFunc(without(3, gone), func(d int) bool { return x.stores(d, 1) })
}

func (x cut) part(gone int) bool {
	return slices.ContainsFunc(without(3, gone), func(d int) bool { return x.stores(d, 0) || x.stores(d, 1) })
}

// P12.5: a Commit that is cut short at each operation, with each set of what waits being stored, and then each disk or
// none gone: Open tells the new blocks if all of the record is anywhere, else the old ones; the new ones in any case if
// Commit has returned no error.
func TestCommitCutShort(t *testing.T) {
	t.Parallel()
	c := config(2, 3, 3, 2)
	old, beside, x := rec(2, 2, 1), rec(2, 3, 0), rec(2, 4, 1)
	for _, o := range cuts() {
		for gone := -1; gone < 3; gone++ {
			r, v := started(t, c)
			commits(t, "before", v, old)
			commits(t, "before", v, beside)
			r.Arm(o.fuse)
			if err := v.Commit(1, x.Blocks); (err == nil) != (o.fuse == 15) || v.Down() != (err != nil) {
				t.Errorf("%v: Commit is %#v", o, err)
			}
			r.Boot(o.kept...)
			if gone >= 0 && o.fuse%2 == 0 {
				r.Die(gone)
			} else {
				r.Replace(gone)
			}
			seq, want := 3, old
			if o.part(gone) {
				seq = 4
			}
			if o.whole(gone) {
				want = x
			}
			if o.fuse >= 9 && want.Seq != 4 {
				t.Fatalf("%v, disk %d: the record is not whole", o, gone)
			}
			w := opens(t, "cut short", r, c, seq)
			readsAll(t, "cut short", w, beside, want)
			r.Boot()
			w, err := Open(r)
			if err != nil || w.Seq() > seq || w.Seq() < want.Seq {
				t.Fatalf("%v, disk %d: Open again is %#v", o, gone, err)
			}
			readsAll(t, "opened again", w, beside, want)
		}
	}
}

// P12.5: of two Commits, each cut short, the first is whole or not there, and so is the second, whatever the first one
// came to, in the same slot and of the same stripe or others.
func TestTwoCommitsCutShort(t *testing.T) {
	t.Parallel()
	for _, slots := range []int{1, 2} {
		c := config(1, 2, 2, slots)
		for way := range 9 * 9 * 4 * 4 * 2 {
			fuses := []int{way % 9, way / 9 % 9}
			keeps := []int{way / 81 % 4, way / 324 % 4}
			s := way / 1296
			r, v := started(t, c)
			commits(t, "before", v, rec(1, 2, 0))
			now := [][]api.Block{rec(1, 2, 0).Blocks, zeros(1)}
			for i := range 2 {
				stripe := i * s
				l := blocks(1, 100*way+i)
				r.Arm(fuses[i])
				err := v.Commit(stripe, l)
				r.Boot(uint64(keeps[i]%2), uint64(keeps[i]/2))
				v, _ = Open(r)
				if v == nil {
					t.Fatalf("way %d: Open tells no volume", way)
				}
				got, _, _ := v.Read(stripe)
				if slices.Equal(got, l) {
					now[stripe] = l
				} else if err == nil {
					t.Errorf("way %d: Commit %d returned no error", way, i)
				}
				for at, want := range now {
					if got, _, err := v.Read(at); !slices.Equal(got, want) {
						t.Fatalf("way %d: behind Commit %d, Read(%d) is other blocks, %#v", way, i, at, err)
					}
				}
			}
		}
	}
}

// failures are what may happen to a disk.
var failures = []func(r *rack.Rack, d, sector, at int){
	func(r *rack.Rack, d, sector, at int) { r.Die(d) },
	func(r *rack.Rack, d, sector, at int) { r.Replace(d) },
	func(r *rack.Rack, d, sector, at int) { r.Rot(d, sector, at%125, 1<<(at%32)) },
}

// P12.4, P12.5: any N - K disks die, are replaced or rot, in each mixture: what was committed is read, without Open in
// between and with it.
func TestReadBehindFailures(t *testing.T) {
	for _, c := range []api.Config{plain(), config(1, 2, 2, 1), config(2, 3, 1, 3), config(2, 4, 2, 1), config(1, 4, 2, 2), config(3, 3, 2, 1)} {
		for set := range 1 << c.N {
			bad := disksOf(set)
			if len(bad) > c.N-c.K {
				continue
			}
			ways := 1
			for range bad {
				ways *= len(failures)
			}
			for way := range ways {
				r, v := started(t, c)
				x, y := rec(c.K, 2, set%c.Stripes), rec(c.K, 3, way%c.Stripes)
				commits(t, "before", v, x)
				commits(t, "before", v, y)
				rest := way
				for _, d := range bad {
					for sector := range r.Sectors() {
						failures[rest%3](r, d, sector, 7*set+13*sector+d)
					}
					rest /= 3
				}
				readsAll(t, "some have failed", v, x, y)
				has(t, "some have failed", v, r, c, 3, false)
				readsAll(t, "opened", opens(t, "opened", r, c, 3), x, y)
				commits(t, "some have failed", v, rec(c.K, 4, 0))
				r.Boot()
				readsAll(t, "opened again", opens(t, "opened again", r, c, 4), x, y, rec(c.K, 4, 0))
			}
		}
	}
}

// P12.4: one disk more than N - K: a Loss, or ErrUnavail if too few are online
func TestReadTooManyFailures(t *testing.T) {
	for _, c := range []api.Config{plain(), config(1, 2, 2, 1), config(2, 3, 1, 3), config(3, 3, 2, 1)} {
		for set := range 1 << c.N {
			bad := disksOf(set)
			if len(bad) <= c.N-c.K {
				continue
			}
			for way, failure := range failures {
				r, v := started(t, c)
				commits(t, "before", v, rec(c.K, 2, 0))
				for _, d := range bad {
					failure(r, d, stripeAt(c, 0), 19*d)
				}
				err := lostStripe(c, 0, c.N-len(bad))
				if way == 0 {
					err = at("stripe.Get", 0, api.ErrUnavail)
				}
				readRefused(t, "too many", v, 0, err)
				if way == 2 && c.Stripes > 1 {
					reads(t, "another stripe", v, unwritten(c, 1))
				}
				has(t, "too many", v, r, c, 2, false)
			}
		}
	}
}

// P12.4: each stripe at the edges, where all is well, where a stripe is lost, where fewer than K disks are online,
// where the power is off, and where the volume is Down, in each set of these
func TestReadRefused(t *testing.T) {
	c := plain()
	for set := range 1 << 4 {
		holds := func(i int) bool { return set>>i%2 == 1 }
		r := filled(t)
		v := opens(t, "filled", r, c, 5)
		if holds(0) {
			rots(t, r, stripeAt(c, 1), 0, 1, 2, 3)
		}
		if holds(1) {
			off(t, r)
		}
		if holds(2) {
			for d := range 4 {
				r.Die(d)
			}
		}
		if holds(3) {
			v.Fail()
		}
		for _, s := range []int{-1, 4, 0, 1, 3, 5, math.MaxInt, math.MinInt} {
			switch {
			case holds(3):
				readRefused(t, "Down", v, s, api.ErrDown)
			case s < 0 || s > 3:
				readRefused(t, "no stripe", v, s, at("stripe.Get", s, api.ErrArg))
			case holds(1) || holds(2):
				readRefused(t, "off, or too few", v, s, at("stripe.Get", s, api.ErrUnavail))
			case holds(0) && s == 1:
				readRefused(t, "lost", v, s, lostStripe(c, 1, 1))
				_, _, err := v.Read(1)
				losing(t, "lost", err, api.Loss{Group: 1, Have: 1, Need: 2})
			case s == 1:
				reads(t, "a stripe", v, unwritten(c, 1))
			default:
				reads(t, "a stripe", v, rec(2, 5-s, s))
			}
		}
		has(t, "Read", v, r, c, 5, holds(3))
	}
}

// P12.4: Read tells the same as stripe.Get, of the disks as they are: with newer generations, waiting ones, and others
// than the volume's own.
func TestReadTheCurrentState(t *testing.T) {
	c := plain()
	r, v := started(t, c)
	done(t, "Put", stripe.Put(r, c, 2, 40, blocks(2, 7)))
	reads(t, "a newer one", v, api.Rec{Seq: 40, Stripe: 2, Blocks: blocks(2, 7)})
	has(t, "a newer one", v, r, c, 1, false)
	x := rec(2, 50, 3)
	for d := range 2 {
		done(t, "Write", r.Write(d, stripeAt(c, 3), frame.Put(stripeFrame(c, x, d))))
	}
	reads(t, "it waits", v, x)
	r.Boot(all)
	readRefused(t, "half of it is stored", v, 3, lostStripe(c, 3, 1))
	layStripe(t, r, c, x, 4)
	reads(t, "it is stored", v, x)
	for d := range 5 {
		r.Replace(d)
	}
	readRefused(t, "all are replaced", v, 3, lostStripe(c, 3, 0))
	done(t, "Make", Make(r, c))
	readsAll(t, "made anew", v)
}

// P12.4: Read, Config, Rack, Seq, Down and Fail use up no operation and change nothing on the disks.
func TestReadIsNoOperation(t *testing.T) {
	c := plain()
	for n := range 3 {
		r := filled(t)
		v := opens(t, "filled", r, c, 5)
		done(t, "Write", r.Write(3, 2, other(99)))
		rots(t, r, stripeAt(c, 1), 0, 1, 2, 3)
		r.Die(1)
		was := sees(r)
		r.Arm(n)
		for range 5 {
			for s := -1; s <= 4; s++ {
				v.Read(s)
			}
			has(t, "Read", v, r, c, 5, false)
		}
		v.Fail()
		v.Read(0)
		has(t, "Fail", v, r, c, 5, true)
		stands(t, "Read", r, was)
		remain(t, "Read", r, n)
	}
}

// P12.4: Fail makes the volume Down, for good: also behind Boot and behind an Open.
func TestFail(t *testing.T) {
	c := config(2, 3, 2, 1)
	r, v := started(t, c)
	x := rec(2, 2, 1)
	commits(t, "before", v, x)
	for range 2 {
		v.Fail()
		was := sees(r)
		has(t, "Fail", v, r, c, 2, true)
		for s := range 2 {
			readRefused(t, "Fail", v, s, api.ErrDown)
			commitRefused(t, "Fail", v, rec(2, 3, s), api.ErrDown)
		}
		r.Boot(everything()...)
		stands(t, "Fail", r, was)
		readsAll(t, "opened", opens(t, "opened", r, c, 2), x)
	}
}

// P12.4: a power failure alone does not make the volume Down: behind Boot it goes on.
func TestOffIsNotDown(t *testing.T) {
	c := config(2, 3, 2, 1)
	r, v := started(t, c)
	off(t, r)
	commitRefused(t, "off", v, rec(2, 2, 1), api.ErrDown)
	readRefused(t, "off", v, 1, at("stripe.Get", 1, api.ErrUnavail))
	has(t, "off", v, r, c, 1, false)
	r.Boot()
	commits(t, "booted", v, rec(2, 2, 1))
	for d := range 2 {
		r.Die(d)
	}
	commitRefused(t, "too few", v, rec(2, 3, 1), api.ErrUnavail)
	r.Replace(0)
	commitRefused(t, "too few have it", v, rec(2, 3, 1), lostStripe(c, 1, 1))
	has(t, "too few", v, r, c, 2, false)
}

// P12.3, R2: Commit changes nothing of the blocks that it is given, up to the end of their capacity, and keeps nothing
// of them; what stands behind them counts for nothing.
func TestCommitLeavesItsBlocks(t *testing.T) {
	for _, c := range []api.Config{plain(), config(2, 2, 4, 1), config(2, 8, 4, 1)} {
		for _, many := range []int{0, 1, 2, 3} {
			for _, fuse := range []int{-1, 4} {
				memory := blocks(9, 13)
				r, v := started(t, c)
				r.Arm(fuse)
				err := v.Commit(1, memory[3:3+many])
				if (err == nil) != (many == 2 && fuse < 0) {
					t.Errorf("Commit of %d blocks is %#v", many, err)
				}
				if !slices.Equal(memory, blocks(9, 13)) {
					t.Errorf("%d of the blocks have changed", many)
				}
				if err != nil {
					continue
				}
				want := api.Rec{Seq: 2, Stripe: 1, Blocks: blocks(9, 13)[3:5]}
				clear(memory)
				readsAll(t, "the blocks are others now", v, want)
				r.Boot()
				readsAll(t, "the blocks are others now, opened", opens(t, "opened", r, c, 2), want)
			}
		}
	}
}

// P12.4, R2: the blocks that Read tells are the caller's own: new memory each time, up to the end of their capacity.
func TestReadTellsNewBlocks(t *testing.T) {
	for _, c := range configs() {
		r, v := started(t, c)
		x := rec(c.K, 2, 0)
		commits(t, "before", v, x)
		first, _, _ := v.Read(0)
		second, _, _ := v.Read(0)
		first = first[:cap(first)]
		for i := range first {
			for at := range first[i] {
				first[i][at] ^= 255
			}
		}
		if !slices.Equal(second, x.Blocks) {
			t.Errorf("%v: what Read told changes with what it told before", c)
		}
		clear(second)
		readsAll(t, "again", v, x)
		r.Boot()
		readsAll(t, "opened", opens(t, "opened", r, c, 2), x)
	}
}

// the chapter's example runs
func TestExampleRuns(t *testing.T) {
	c := config(2, 3, 2, 1)
	for left := range 3 {
		r, v := started(t, c)
		x := rec(2, 2, 1)
		commits(t, "the run", v, x)
		reads(t, "the run", v, x)
		r.Boot()
		readsAll(t, "a crash", opens(t, "a crash", r, c, 2), x)
		for _, d := range without(3, left) {
			r.Die(d)
		}
		_, err := Open(r)
		if fault.Kind(err) != api.ErrUnavail {
			t.Errorf("two disks are dead: %#v", err)
		}
		openRefused(t, "two disks are dead", r, noSuper(1))
	}
}

// P12.5: long runs of commits, crashes, cut short Opens and failures of disks, of which some N - K may fail at any time:
// what a Commit without an error wrote is read behind each Open, and of one that was cut short all or nothing.
func TestLongLives(t *testing.T) {
	t.Parallel()
	for seed := range 90 {
		c := []api.Config{config(2, 3, 3, 2), config(1, 3, 2, 1), plain(), config(3, 4, 4, 4), config(2, 4, 2, 3)}[seed%5]
		(&life{t: t, c: c, state: uint32(seed)}).live(300)
	}
}

// life is what has become of a volume. Of its stripes, now has the blocks, and maybe those of a Commit that was cut
// short, which take their place if Open brings it to its end.
type life struct {
	t     *testing.T
	c     api.Config
	state uint32
	r     *rack.Rack
	v     *Volume
	now   [][]api.Block
	cut   int
	maybe []api.Block
}

// below tells some number below n.
func (l *life) below(n int) int {
	l.state = l.state*1664525 + 1013904223
	return int(l.state>>12) % n
}

func (l *life) live(steps int) {
	l.t.Helper()
	l.r, l.v = started(l.t, l.c)
	for range l.c.Stripes {
		l.now = append(l.now, zeros(l.c.K))
	}
	spare := l.below(l.c.N)
	for step := range steps {
		switch l.below(8) {
		case 0, 1, 2:
			l.commit(step)
		case 3:
			l.r.Boot(uint64(l.state), uint64(l.state>>3), uint64(l.state>>7), 1, 2)
			l.v.Fail()
		case 4, 5:
			l.open()
		case 6:
			if l.c.N > l.c.K {
				d := (spare + l.below(l.c.N-l.c.K)) % l.c.N
				failures[l.below(3)](l.r, d, l.below(l.r.Sectors()), l.below(125))
			}
		case 7:
			l.r.Arm(l.below(40) - 3)
		}
		l.check(step)
	}
}

// commit tries one, and takes down what came of it.
func (l *life) commit(step int) {
	down := l.v.Down() || l.r.Off()
	s, b := l.below(l.c.Stripes), blocks(l.c.K, step)
	err := l.v.Commit(s, b)
	switch {
	case down:
		refused(l.t, "down", err, at("volume.Commit", s, api.ErrDown))
	case err == nil:
		l.now[s] = b
	case l.v.Down():
		l.cut, l.maybe = s, b
	default:
		l.t.Errorf("Commit is %#v", err)
	}
}

// open tries to, and if it does takes down what came of the Commit that was cut short.
func (l *life) open() {
	v, err := Open(l.r)
	if err != nil {
		if !l.r.Off() {
			l.t.Fatalf("%v: Open is %#v", l.c, err)
		}
		return
	}
	l.v = v
	if l.maybe == nil {
		return
	}
	got, _, _ := v.Read(l.cut)
	if slices.Equal(got, l.maybe) {
		l.now[l.cut] = l.maybe
	}
	l.maybe = nil
}

// check wants all stripes to be as they should, if they can be read.
func (l *life) check(step int) {
	l.t.Helper()
	if l.v.Down() || l.r.Off() {
		return
	}
	for s, want := range l.now {
		if got, gen, err := l.v.Read(s); !slices.Equal(got, want) || gen > l.v.Seq() {
			l.t.Fatalf("%v, step %d: Read(%d) is other blocks, %d, %#v", l.c, step, s, gen, err)
		}
	}
}
