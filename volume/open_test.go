package volume

import (
	"slices"
	"testing"

	"stave/api"
	"stave/frame"
	"stave/journal"
	"stave/rack"
	"stave/stripe"
	"stave/super"
)

// reason is one for which Open may be refused: what brings it about, and the error inside Open's own layer. If fuse is
// not negative, so many operations remain.
type reason struct {
	name  string
	spoil func(r *rack.Rack)
	fuse  int
	want  error
}

// reasons tells those for which Open may be refused, in the order of the promise, of a volume with the configuration
// plain whose three slots have the records 3, 4 and 5 of the stripes 0, 2 and 0.
func reasons(t *testing.T) []reason {
	c := plain()
	nothing := func(r *rack.Rack) {}
	loseSlot := func(slot int) func(r *rack.Rack) {
		return func(r *rack.Rack) { wipe(t, r, slotAt(c, slot, slot%2), below(5)...) }
	}
	loseStripe := func(s int) func(r *rack.Rack) {
		return func(r *rack.Rack) { wipe(t, r, stripeAt(c, s), 1, 2, 3, 4) }
	}
	return []reason{
		{"off", nothing, -1, api.ErrDown},
		{"no superblock", func(r *rack.Rack) { wipe(t, r, 0, below(5)...) }, -1, noSuper(0)},
		{"slot 0 is lost", loseSlot(0), -1, lostSlot(0)},
		{"Log of slot 0", nothing, 0, at("journal.Log", 3, at("rack.Write", 0, api.ErrDown))},
		{"slot 1 is lost", loseSlot(1), -1, lostSlot(1)},
		{"Log of slot 1", nothing, 15, at("journal.Log", 4, at("rack.Write", 0, api.ErrDown))},
		{"slot 2 is lost", loseSlot(2), -1, lostSlot(2)},
		{"Log of slot 2", nothing, 30, at("journal.Log", 5, at("rack.Write", 0, api.ErrDown))},
		{"Put", nothing, 45, at("stripe.Put", 2, at("rack.Write", 0, api.ErrDown))},
		{"Put again", nothing, 55, at("stripe.Put", 0, at("rack.Write", 0, api.ErrDown))},
		{"stripe 1 is lost", loseStripe(1), -1, lostStripe(c, 1, 1)},
		{"stripe 3 is lost", loseStripe(3), -1, lostStripe(c, 3, 1)},
	}
}

// filled wants a volume with the configuration plain and four commits.
func filled(t *testing.T) *rack.Rack {
	t.Helper()
	r, v := started(t, plain())
	for seq, s := range []int{3, 0, 2, 0} {
		commits(t, "filled", v, rec(2, 2+seq, s))
	}
	return r
}

// P12.2: each reason for which Open may be refused, and two and three of them: the first one in the order is told.
func TestOpenErrorsInOrder(t *testing.T) {
	l := reasons(t)
	for i := range l {
		for j := i; j < len(l); j++ {
			for k := j; k < len(l); k++ {
				r := filled(t)
				fuse := -1
				for _, n := range []int{k, j, i} {
					l[n].spoil(r)
					if l[n].fuse >= 0 {
						fuse = l[n].fuse
					}
				}
				r.Arm(fuse)
				if i == 0 {
					off(t, r)
				}
				name := l[i].name + ", " + l[j].name + ", " + l[k].name
				openRefused(t, name, r, l[i].want)
			}
		}
	}
}

// P12.2: the Loss of a slot or a stripe is found through all layers.
func TestOpenTellsALoss(t *testing.T) {
	c := plain()
	for slot := range c.Slots {
		r := filled(t)
		wipe(t, r, slotAt(c, slot, 1), below(5)...)
		_, err := Open(r)
		losing(t, "a slot", err, api.Loss{Group: slot, Have: 0, Need: 1})
	}
	for _, s := range []int{1, 3} {
		for have := range c.K {
			r := filled(t)
			rots(t, r, stripeAt(c, s), below(5)[have:]...)
			_, err := Open(r)
			losing(t, "a stripe", err, api.Loss{Group: s, Have: have, Need: 2})
		}
	}
}

// P12.2: each set of disks that have a superblock, the others being dead, or online without one
func TestOpenSuperblocks(t *testing.T) {
	for _, c := range []api.Config{plain(), config(1, 1, 1, 1), config(1, 3, 2, 1), config(2, 3, 2, 1), config(3, 3, 1, 2)} {
		for set := range 1 << c.N {
			have := disksOf(set)
			for _, dead := range []bool{true, false} {
				r, v := started(t, c)
				commits(t, "all are there", v, rec(c.K, 2, 0))
				for _, d := range without(c.N, have...) {
					if dead {
						r.Die(d)
					} else {
						wipe(t, r, 0, d)
					}
				}
				if len(have) < c.K {
					openRefused(t, "too few", r, noSuper(len(have)))
					continue
				}
				readsAll(t, "enough", opens(t, "enough", r, c, 2), rec(c.K, 2, 0))
			}
		}
	}
}

// P12.2: as many disks online as are needed, and one fewer, for each K and each number of disks
func TestOpenOnline(t *testing.T) {
	for _, c := range configs() {
		for first := range c.N {
			r, v := started(t, c)
			commits(t, "all are online", v, rec(c.K, 2, c.Stripes-1))
			for i := range c.N + 1 {
				if up := len(r.Online()); up >= c.K {
					readsAll(t, "enough", opens(t, "enough", r, c, 2), rec(c.K, 2, c.Stripes-1))
				} else {
					openRefused(t, "too few", r, noSuper(up))
				}
				r.Die((first + i) % c.N)
			}
		}
	}
}

// P12.2: no volume; another volume on the first disk; a volume that does not fit
func TestOpenNoVolume(t *testing.T) {
	c := plain()
	openRefused(t, "new", racked(t, c, 0), noSuper(0))
	openRefused(t, "full", full(t, c, 0), noSuper(0))
	for change, have := range map[api.Config]int{
		{Id: 78, K: 2, N: 5, Stripes: 4, Slots: 3}: 1,
		{Id: 77, K: 2, N: 5, Stripes: 3, Slots: 3}: 1,
		{Id: 77, K: 1, N: 4, Stripes: 4, Slots: 3}: 1,
		{Id: 77, K: 1, N: 5, Stripes: 9, Slots: 3}: 1,
	} {
		r := filled(t)
		lay(t, r, 0, frame.Put(superFrame(change, 0)), 0)
		openRefused(t, "another one on the first disk", r, noSuper(have))
		lay(t, r, 0, frame.Put(superFrame(c, 0)), 0)
		lay(t, r, 0, frame.Put(superFrame(change, 3)), 3)
		opens(t, "another one on a later disk", r, c, 5)
		for d := range 5 {
			lay(t, r, 0, frame.Put(superFrame(c, 0)), d)
		}
		openRefused(t, "superblocks of disk 0 on all", r, noSuper(1))
	}
}

// P12.2: Open opens with the configuration that it finds, be the rack greater than needed.
func TestOpenConfig(t *testing.T) {
	for _, c := range configs() {
		r := racked(t, c, 5)
		done(t, "Make", Make(r, c))
		v := opens(t, "a greater rack", r, c, 1)
		c.Id = 1<<31 - 1
		done(t, "Make", Make(r, c))
		opens(t, "the greatest Id", r, c, 1)
		if v.Config().Id != 9 {
			t.Errorf("the older volume has Id %d now", v.Config().Id)
		}
	}
}

// P12.2: a new volume needs nothing written.
func TestOpenNothingToDo(t *testing.T) {
	for _, c := range configs() {
		r := made(t, c)
		done(t, "Write", r.Write(0, 1, other(4)))
		done(t, "Write", r.Write(0, 1, frame.Put(api.Frame{Kind: 2})))
		was := sees(r)
		for n := range 3 {
			r.Arm(n)
			opens(t, "new", r, c, 1)
			stands(t, "new", r, was)
			remain(t, "new", r, n)
			r.Boot(everything()...)
		}
	}
}

// slotCase is a state of slot 1, and of the stripes, in a volume with K 2, N 3, 3 stripes and 2 slots.
type slotCase struct {
	name  string
	lay   func(r *rack.Rack)
	calls []storing
	seq   int
	want  []api.Rec
	inner error
}

// slotCases tells many: those where the newest record is complete and those where it is not.
func slotCases(t *testing.T) []slotCase {
	c := config(2, 3, 3, 2)
	x, older, y := rec(2, 5, 1), rec(2, 3, 2), rec(2, 7, 1)
	elsewhere := rec(2, 5, 0)
	every := below(3)
	logged, put, blank := logging(c, x, every...), putting(c, x, every...), blanking(c, 1, every...)
	log := func(r *rack.Rack, x api.Rec, disks ...int) {
		layRec(t, r, c, x, 0, disks...)
		layRec(t, r, c, x, 1, disks...)
	}
	return []slotCase{
		{"blank", func(r *rack.Rack) {}, nil, 1, nil, nil},
		{"the stripe was never written", func(r *rack.Rack) { log(r, x, every...) }, []storing{logged, put}, 5, []api.Rec{x}, nil},
		{"the stripe is older", func(r *rack.Rack) {
			log(r, x, every...)
			layStripe(t, r, c, rec(2, 4, 1), every...)
		}, []storing{logged, put}, 5, []api.Rec{x}, nil},
		{"the stripe is of the same generation", func(r *rack.Rack) {
			log(r, x, every...)
			layStripe(t, r, c, x, every...)
		}, []storing{logged, put}, 5, []api.Rec{x}, nil},
		{"the stripe is newer", func(r *rack.Rack) {
			log(r, x, every...)
			layStripe(t, r, c, y, every...)
		}, []storing{logged}, 7, []api.Rec{y}, nil},
		{"the stripe is newer by one", func(r *rack.Rack) {
			log(r, x, every...)
			layStripe(t, r, c, rec(2, 6, 1), every...)
		}, []storing{logged}, 6, []api.Rec{rec(2, 6, 1)}, nil},
		{"the stripe is newer on two disks", func(r *rack.Rack) {
			log(r, x, every...)
			layStripe(t, r, c, y, 0, 2)
		}, []storing{logged}, 7, []api.Rec{y}, nil},
		{"the stripe is newer on one disk", func(r *rack.Rack) {
			log(r, x, every...)
			layStripe(t, r, c, y, 2)
		}, []storing{logged}, 0, nil, lostStripe(c, 1, 1)},
		{"the stripe is of the same generation on one disk", func(r *rack.Rack) {
			log(r, x, every...)
			layStripe(t, r, c, x, 1)
		}, []storing{logged, put}, 5, []api.Rec{x}, nil},
		{"the stripe is gone", func(r *rack.Rack) {
			log(r, x, every...)
			wipe(t, r, stripeAt(c, 1), every...)
		}, []storing{logged, put}, 5, []api.Rec{x}, nil},
		{"another stripe is gone", func(r *rack.Rack) {
			log(r, x, every...)
			wipe(t, r, stripeAt(c, 2), every...)
		}, []storing{logged, put}, 0, nil, lostStripe(c, 2, 0)},
		{"one disk has the record", func(r *rack.Rack) { log(r, x, 2) }, []storing{logged, put}, 5, []api.Rec{x}, nil},
		{"two disks have half of it each", func(r *rack.Rack) {
			layRec(t, r, c, x, 0, 2)
			layRec(t, r, c, x, 1, 0)
		}, []storing{logged, put}, 5, []api.Rec{x}, nil},
		{"the others have an older one", func(r *rack.Rack) {
			log(r, older, 0, 1)
			log(r, x, 2)
		}, []storing{logged, put}, 5, []api.Rec{x}, nil},
		{"half of it", func(r *rack.Rack) { layRec(t, r, c, x, 0, every...) }, []storing{blank}, 5, nil, nil},
		{"the other half of it", func(r *rack.Rack) { layRec(t, r, c, x, 1, 1) }, []storing{blank}, 5, nil, nil},
		{"half of it over an older one", func(r *rack.Rack) {
			log(r, older, every...)
			layStripe(t, r, c, older, every...)
			layRec(t, r, c, x, 0, 0)
		}, []storing{blank}, 5, []api.Rec{older}, nil},
		{"half of it over an older one that is not put", func(r *rack.Rack) {
			log(r, older, every...)
			layRec(t, r, c, x, 1, 2)
		}, []storing{blank}, 5, nil, nil},
		{"half of it and half of one of another stripe", func(r *rack.Rack) {
			layRec(t, r, c, x, 0, 0, 1)
			layRec(t, r, c, elsewhere, 1, 2)
		}, []storing{blank}, 5, nil, nil},
		{"half of it, and the stripe is newer", func(r *rack.Rack) {
			layRec(t, r, c, x, 0, 0, 1)
			layStripe(t, r, c, y, every...)
		}, []storing{blank}, 7, []api.Rec{y}, nil},
		{"half of it, and the stripe is gone", func(r *rack.Rack) {
			layRec(t, r, c, x, 0, 0, 1)
			wipe(t, r, stripeAt(c, 1), every...)
		}, []storing{blank}, 0, nil, lostStripe(c, 1, 0)},
		{"one disk alone is blank", func(r *rack.Rack) { wipe(t, r, 3, 0, 2); wipe(t, r, 4, 1, 2) }, nil, 1, nil, nil},
		{"Gen 1 on one disk", func(r *rack.Rack) { log(r, rec(2, 1, 1), 0) }, nil, 1, nil, nil},
		{"Gen 1 on all disks", func(r *rack.Rack) { log(r, rec(2, 1, 1), every...) }, nil, 0, nil, lostSlot(1)},
		{"never written", func(r *rack.Rack) { wipe(t, r, 3, every...); wipe(t, r, 4, every...) }, nil, 0, nil, lostSlot(1)},
		{"half never written", func(r *rack.Rack) { wipe(t, r, 4, every...) }, nil, 0, nil, lostSlot(1)},
		{"a Seq of another slot", func(r *rack.Rack) {
			for i := range 2 {
				lay(t, r, 3+i, frame.Put(recFrame(rec(2, 4, 1), i)), 1)
			}
		}, nil, 1, nil, nil},
	}
}

// P12.2: what Open does of a slot, step by step, with the error at each operation, and what it opens then
func TestOpenSlots(t *testing.T) {
	c := config(2, 3, 3, 2)
	for _, x := range slotCases(t) {
		prepare := func() *rack.Rack {
			r := made(t, c)
			x.lay(r)
			return r
		}
		openOrdered(t, x.name, prepare, x.inner, x.calls...)
		r := prepare()
		r.Arm(len(operations(x.calls...)))
		if x.inner != nil {
			openRefused(t, x.name, r, x.inner)
			remain(t, x.name, r, 0)
			continue
		}
		readsAll(t, x.name, opens(t, x.name, r, c, x.seq), x.want...)
		remain(t, x.name, r, 0)
	}
}

// P12.2: records with the least and the greatest Seq, in each slot
func TestOpenSeqOfARecord(t *testing.T) {
	for slots := 1; slots <= api.MaxSlots; slots++ {
		c := config(2, 3, 2, slots)
		for _, seq := range []int{2, 3, 4, 5, 255, 256, 1 << 32, 1<<60 - 3, 1<<60 - 2, 1<<60 - 1, 1 << 60} {
			x := rec(2, seq, seq%2)
			prepare := func() *rack.Rack {
				r := made(t, c)
				layRec(t, r, c, x, 0, 1)
				layRec(t, r, c, x, 1, 1)
				return r
			}
			openOrdered(t, "a record", prepare, nil, logging(c, x, 0, 1, 2), putting(c, x, 0, 1, 2))
			r := prepare()
			readsAll(t, "a record", opens(t, "a record", r, c, seq), x)
			r.Boot()
			readsAll(t, "a record, again", opens(t, "a record, again", r, c, seq), x)
		}
	}
}

// P12.2: three slots whose records come in each order, of one stripe and of several, with the stripes older and newer
func TestOpenOtherOrder(t *testing.T) {
	t.Parallel()
	c := config(1, 2, 3, 3)
	for _, stripes := range [][]int{{0, 1, 2}, {2, 0, 1}, {0, 0, 0}, {1, 0, 1}, {2, 2, 0}} {
		for _, gens := range [][]int{{1, 1, 1}, {5, 6, 7}, {11, 4, 2}} {
			for way := range 27 {
				l := []api.Rec{rec(1, 3+3*(way%3), stripes[0]), rec(1, 4+3*(way/3%3), stripes[1]), rec(1, 2+3*(way/9), stripes[2])}
				openTurned(t, c, l, gens)
			}
		}
	}
}

// openTurned wants Open to log the records of the slots in the order of the slots and then to put those that are not
// older than their stripes in the order of their Seq.
func openTurned(t *testing.T, c api.Config, slots []api.Rec, gens []int) {
	t.Helper()
	var calls []storing
	var want []api.Rec
	prepare := func() *rack.Rack {
		r := made(t, c)
		for d, x := range slots {
			layRec(t, r, c, x, 0, d%2)
		}
		for s, gen := range gens {
			layStripe(t, r, c, rec(1, gen, s), 0, 1)
		}
		return r
	}
	for _, x := range slots {
		calls = append(calls, logging(c, x, 0, 1))
	}
	now, seq := slices.Clone(gens), slices.Max(gens)
	for s, gen := range gens {
		want = append(want, rec(1, gen, s))
	}
	for turn := 2; turn <= 10; turn++ {
		for _, x := range slots {
			if x.Seq == turn && now[x.Stripe] <= turn {
				calls = append(calls, putting(c, x, 0, 1))
				want = append(want, x)
				now[x.Stripe] = turn
			}
			seq = max(seq, x.Seq)
		}
	}
	openOrdered(t, "another order", prepare, nil, calls...)
	readsAll(t, "another order", opens(t, "another order", prepare(), c, seq), want...)
}

// P12.2: a slot that is not complete among slots that are, in each place
func TestOpenAmongOthers(t *testing.T) {
	c := config(2, 3, 2, 4)
	for half := range 4 {
		for none := range 4 {
			if half == none {
				continue
			}
			var calls, puts []storing
			var want []api.Rec
			seqs := []int{8, 5, 10, 7}
			prepare := func() *rack.Rack {
				r := made(t, c)
				for slot, seq := range seqs {
					x := rec(2, seq, seq%2)
					if slot != none {
						layRec(t, r, c, x, 0, 1)
					}
					if slot != none && slot != half {
						layRec(t, r, c, x, 1, 2)
					}
				}
				return r
			}
			seq := 1
			for slot, s := range seqs {
				x := rec(2, s, s%2)
				if slot == half {
					calls = append(calls, blanking(c, slot, 0, 1, 2))
				} else if slot != none {
					calls = append(calls, logging(c, x, 0, 1, 2))
				}
				if slot != none {
					seq = max(seq, s)
				}
			}
			for _, slot := range []int{1, 3, 0, 2} {
				if x := rec(2, seqs[slot], seqs[slot]%2); slot != half && slot != none {
					puts = append(puts, putting(c, x, 0, 1, 2))
					want = append(want, x)
				}
			}
			openOrdered(t, "among others", prepare, nil, append(calls, puts...)...)
			readsAll(t, "among others", opens(t, "among others", prepare(), c, seq), want...)
		}
	}
}

// P12.2: a slot or a stripe that is lost ends the Open behind what it did of the slots and records before.
func TestOpenEndsAtALoss(t *testing.T) {
	c := config(1, 2, 2, 4)
	x, y := rec(1, 8, 1), rec(1, 6, 0)
	for lost := range 4 {
		prepare := func() *rack.Rack {
			r := made(t, c)
			layRec(t, r, c, x, 0, 1)
			layRec(t, r, c, y, 0, 0)
			wipe(t, r, slotAt(c, lost, 0), 0, 1)
			return r
		}
		var calls []storing
		if lost > 0 {
			calls = append(calls, logging(c, x, 0, 1))
		}
		if lost > 2 {
			calls = append(calls, logging(c, y, 0, 1))
		}
		openOrdered(t, "a lost slot", prepare, lostSlot(lost), calls...)
	}
	k := config(2, 3, 3, 1)
	z := rec(2, 4, 1)
	for _, lost := range []int{0, 2} {
		prepare := func() *rack.Rack {
			r := made(t, k)
			layRec(t, r, k, z, 0, 1)
			layRec(t, r, k, z, 1, 2)
			layStripe(t, r, k, rec(2, 5, lost), 2)
			return r
		}
		openOrdered(t, "a lost stripe", prepare, lostStripe(k, lost, 1), logging(k, z, 0, 1, 2), putting(k, z, 0, 1, 2))
	}
}

// P12.2: what Open writes to disks that were replaced, written out: the slots and stripes of the records that it logs,
// the slots that it blanks, and nothing else; no superblock, no other stripe, and no slot that is blank already
func TestOpenReplaced(t *testing.T) {
	c := config(2, 4, 4, 3)
	r, v := started(t, c)
	commits(t, "filled", v, rec(2, 2, 3))
	commits(t, "filled", v, rec(2, 3, 1))
	layRec(t, r, c, rec(2, 4, 0), 1, 1)
	want := sees(r)
	r.Replace(0)
	r.Replace(3)
	for _, d := range []int{0, 3} {
		// Slot 2 has the record 2 of stripe 3, slot 0 the record 3 of stripe 1, and slot 1 half of the record 4.
		for _, sector := range []int{0, 7, 9} {
			want[d][sector] = make([]byte, api.Sector)
		}
	}
	for d := range 4 {
		for i := range 2 {
			want[d][3+i] = frame.Put(api.Frame{Kind: 2, Slot: i})
		}
	}
	w := opens(t, "replaced", r, c, 4)
	stands(t, "replaced", r, want)
	readsAll(t, "replaced", w, rec(2, 2, 3), rec(2, 3, 1))
	r.Boot()
	stands(t, "replaced and booted", r, want)

	r = made(t, c)
	want = sees(r)
	r.Replace(1)
	want[1] = sees(racked(t, c, 0))[1]
	opens(t, "nothing to do", r, c, 1)
	stands(t, "nothing to do", r, want)
}

// P12.2: each set of disks that were replaced or are dead: only what is online is written.
func TestOpenOnlineAlone(t *testing.T) {
	c := config(1, 4, 3, 2)
	for set := range 1 << c.N {
		bad := disksOf(set)
		if len(bad) == c.N {
			continue
		}
		for _, dead := range []bool{true, false} {
			prepare := func() *rack.Rack {
				r, v := started(t, c)
				commits(t, "filled", v, rec(1, 2, 1))
				commits(t, "filled", v, rec(1, 3, 2))
				for _, d := range bad {
					if r.Die(d); !dead {
						r.Replace(d)
					}
				}
				return r
			}
			online := below(4)
			if dead {
				online = without(4, bad...)
			}
			x, y := rec(1, 2, 1), rec(1, 3, 2)
			openOrdered(t, "some are gone", prepare, nil, logging(c, x, online...), logging(c, y, online...), putting(c, x, online...), putting(c, y, online...))
		}
	}
}

// P12.2: the newer of two generations on each set of disks: on fewer than K it is a Loss, though the older one is on K
// and more, unless the journal has it.
func TestOpenLostGeneration(t *testing.T) {
	for _, c := range []api.Config{plain(), config(1, 2, 2, 1), config(2, 3, 2, 2), config(3, 3, 1, 1)} {
		for set := 1; set < 1<<c.N; set++ {
			for s := range c.Stripes {
				newer := disksOf(set)
				x := rec(c.K, 6, s)
				r := made(t, c)
				layStripe(t, r, c, rec(c.K, 5, s), below(c.N)...)
				layStripe(t, r, c, x, newer...)
				was := sees(r)
				if len(newer) >= c.K {
					readsAll(t, "enough", opens(t, "enough", r, c, 6), x)
				} else {
					openRefused(t, "too few", r, lostStripe(c, s, len(newer)))
				}
				stands(t, "a generation", r, was)
				for i := range c.K {
					layRec(t, r, c, x, i, (s+i)%c.N)
				}
				readsAll(t, "the journal has it", opens(t, "the journal has it", r, c, 6), x)
			}
		}
	}
}

// P12.2: a stripe with Gen 0, or of which nothing is left, is lost.
func TestOpenNoGeneration(t *testing.T) {
	c := config(2, 3, 3, 1)
	for s := range c.Stripes {
		r := made(t, c)
		layStripe(t, r, c, api.Rec{Stripe: s, Blocks: blocks(2, 4)}, below(3)...)
		openRefused(t, "Gen 0", r, lostStripe(c, s, 0))
		wipe(t, r, stripeAt(c, s), below(3)...)
		openRefused(t, "bytes 0", r, lostStripe(c, s, 0))
		layStripe(t, r, c, rec(2, 1, s), 0, 2)
		opens(t, "Gen 1", r, c, 1)
	}
}

// P12.2: an Open that is cut short at each operation, with more or less of what waits being stored, and Open again: the
// records that were complete are read, and the others are not.
func TestOpenCutShort(t *testing.T) {
	t.Parallel()
	c := config(2, 3, 4, 3)
	old, half, whole, stale := rec(2, 2, 0), rec(2, 6, 1), rec(2, 7, 2), rec(2, 5, 3)
	prepare := func() *rack.Rack {
		r := made(t, c)
		layStripe(t, r, c, old, below(3)...)
		layRec(t, r, c, half, 1, 0, 2)
		layRec(t, r, c, whole, 0, 1)
		layRec(t, r, c, whole, 1, 2)
		layRec(t, r, c, stale, 0, 0, 1, 2)
		layRec(t, r, c, stale, 1, 0, 1, 2)
		layStripe(t, r, c, stale, 0)
		return r
	}
	calls := operations(blanking(c, 0, 0, 1, 2), logging(c, whole, 0, 1, 2), logging(c, stale, 0, 1, 2), putting(c, stale, 0, 1, 2), putting(c, whole, 0, 1, 2))
	for n := range len(calls) + 1 {
		for kept := range 64 {
			r := prepare()
			r.Arm(n)
			if v, err := Open(r); (err == nil) != (n == len(calls)) || (v == nil) == (err == nil) {
				t.Errorf("Open behind %d operations is %v, %#v", n, v, err)
			}
			r.Boot(uint64(kept%4), uint64(kept/4%4), uint64(kept/16))
			v := opens(t, "again", r, c, 7)
			readsAll(t, "again", v, old, whole, stale)
			commits(t, "again", v, rec(2, 8, 1))
			r.Boot()
			readsAll(t, "once more", opens(t, "once more", r, c, 8), old, whole, stale, rec(2, 8, 1))
		}
	}
}

// P12.2, P12.5: an Open behind a Commit that was cut short, itself cut short, and a disk that goes then
func TestOpenCutShortAndADiskGoes(t *testing.T) {
	c := config(2, 3, 2, 1)
	x, y := rec(2, 2, 0), rec(2, 3, 1)
	for cut := range len(operations(logging(c, y, 0, 1, 2), putting(c, y, 0, 1, 2))) {
		for n := range 16 {
			for gone := range 3 {
				r, v := started(t, c)
				commits(t, "the first", v, x)
				r.Arm(cut)
				if v.Commit(1, y.Blocks) == nil {
					t.Error("not cut short")
				}
				r.Boot(1, 3, 2)
				r.Arm(n)
				_, err := Open(r)
				r.Boot(2, 1)
				r.Replace(gone)
				w, again := Open(r)
				if again != nil {
					t.Fatalf("cut %d, %d, disk %d: %#v, %#v", cut, n, gone, err, again)
				}
				reads(t, "the first", w, x)
				l, gen, _ := w.Read(1)
				if gen == 3 && !slices.Equal(l, y.Blocks) || gen == 1 && !slices.Equal(l, zeros(2)) || gen != 1 && gen != 3 || cut > 8 && gen != 3 {
					t.Errorf("cut %d, %d, disk %d: generation %d", cut, n, gone, gen)
				}
				r.Boot()
				w, again = Open(r)
				if again != nil {
					t.Fatalf("cut %d, %d, disk %d: %#v", cut, n, gone, again)
				}
				reads(t, "as before", w, api.Rec{Seq: gen, Stripe: 1, Blocks: l})
			}
		}
	}
}

// P12.2: Seq is the greatest of what the slots tell, be their records complete or not, and of all generations.
func TestOpenSeq(t *testing.T) {
	c := plain()
	for _, seqs := range [][]int{{9, 4, 5}, {3, 10, 5}, {3, 4, 11}, {3, 4, 5}} {
		for half := range 8 {
			for _, gens := range [][]int{{1, 1, 1, 1}, {7, 1, 2, 2}, {2, 12, 1, 1}, {2, 3, 13, 5}, {1, 4, 6, 14}} {
				r := made(t, c)
				seq := 1
				for slot, n := range seqs {
					layRec(t, r, c, rec(2, n, slot), 0, slot)
					if half>>slot%2 == 0 {
						layRec(t, r, c, rec(2, n, slot), 1, slot+1)
					}
					seq = max(seq, n)
				}
				for s, gen := range gens {
					layStripe(t, r, c, rec(2, gen, s), below(5)...)
					seq = max(seq, gen)
				}
				v := opens(t, "the greatest", r, c, seq)
				commits(t, "the next", v, rec(2, seq+1, 2))
			}
		}
	}
}

// P12.2: of a record that is not complete nothing is left behind Open, neither is its Seq told by another Open.
func TestOpenForgets(t *testing.T) {
	c := config(2, 3, 2, 2)
	r, v := started(t, c)
	commits(t, "the first", v, rec(2, 2, 1))
	layRec(t, r, c, rec(2, 9, 0), 1, 2)
	w := opens(t, "half a record", r, c, 9)
	x, whole, newest, err := journal.Slot(r, c, 1)
	if x.Seq != 0 || !whole || newest != 0 || err != nil {
		t.Errorf("Slot is Seq %d, %v, %d, %#v", x.Seq, whole, newest, err)
	}
	opens(t, "again", r, c, 2)
	commits(t, "the volume that was open", w, rec(2, 10, 0))
	readsAll(t, "again", opens(t, "again", r, c, 10), rec(2, 2, 1), rec(2, 10, 0))
}

// P12.2: Open tells a new volume each time, which is not Down.
func TestOpenAnew(t *testing.T) {
	c := config(1, 2, 2, 1)
	r, v := started(t, c)
	commits(t, "the first", v, rec(1, 2, 0))
	w := opens(t, "another", r, c, 2)
	v.Fail()
	has(t, "the first", v, r, c, 2, true)
	has(t, "another", w, r, c, 2, false)
	commits(t, "another", w, rec(1, 3, 1))
	has(t, "the first", v, r, c, 2, true)
	off(t, r)
	openRefused(t, "off", r, api.ErrDown)
	r.Boot()
	readsAll(t, "booted", opens(t, "booted", r, c, 3), rec(1, 2, 0), rec(1, 3, 1))
}

// P12.2: what waits counts as there, and is flushed with what Open writes.
func TestOpenWhatWaits(t *testing.T) {
	c := config(1, 2, 2, 1)
	x := rec(1, 5, 1)
	r := made(t, c)
	done(t, "Write", r.Write(1, 1, frame.Put(recFrame(x, 0))))
	readsAll(t, "it waits", opens(t, "it waits", r, c, 5), x)
	r.Boot()
	readsAll(t, "it was flushed", opens(t, "it was flushed", r, c, 5), x)
	r = made(t, c)
	done(t, "Write", r.Write(1, stripeAt(c, 0), frame.Put(stripeFrame(c, rec(1, 6, 0), 1))))
	readsAll(t, "a stripe waits", opens(t, "a stripe waits", r, c, 6), rec(1, 6, 0))
	r.Boot()
	readsAll(t, "it was lost", opens(t, "it was lost", r, c, 1))
}

// P12.2, R4, R8: two racks have nothing to do with each other.
func TestOpenTwoRacks(t *testing.T) {
	one, two := plain(), config(1, 2, 3, 1)
	a, v := started(t, one)
	b, w := started(t, two)
	for seq := 2; seq < 8; seq++ {
		commits(t, "the one", v, rec(2, seq, seq%4))
		commits(t, "the other one", w, rec(1, seq, seq%3))
		v, w = opens(t, "the one", a, one, seq), opens(t, "the other one", b, two, seq)
	}
	b.Die(0)
	b.Die(1)
	readsAll(t, "the one", v, rec(2, 4, 0), rec(2, 5, 1), rec(2, 6, 2), rec(2, 7, 3))
	openRefused(t, "the other one", b, noSuper(0))
}

// P12.2: Open writes the superblocks of none, and a volume that lost those of too many stays unopened.
func TestOpenNoSuperblocks(t *testing.T) {
	c := config(2, 3, 2, 2)
	r, v := started(t, c)
	commits(t, "the first", v, rec(2, 2, 1))
	r.Replace(2)
	opens(t, "one is replaced", r, c, 2)
	if _, ok := super.Get(r, 2); ok {
		t.Error("Open has written a superblock")
	}
	if gen, parts := stripe.Look(r, c, 0); gen != 1 || len(parts) != 2 {
		t.Errorf("Look is %d, %d parts", gen, len(parts))
	}
	r.Replace(0)
	openRefused(t, "another is replaced", r, noSuper(1))
}
