package mend

import (
	"bytes"
	"errors"
	"slices"
	"strconv"
	"testing"

	"stave/api"
	"stave/fault"
	"stave/frame"
	"stave/journal"
	"stave/rack"
	"stave/stripe"
	"stave/super"
	"stave/volume"
)

// operation is a write of b at a sector of a disk, or a flush of the disk; the error behind which it comes to nothing if
// the power fails; and how many frames the Tick has written once it is done.
type operation struct {
	disk, sector int
	b            []byte
	flush        bool
	err          error
	written      int
}

// storing tells the operations of a Tick that writes the frames of a slot or a stripe at these places, and then flushes
// the disks that are online.
func storing(places []place, online ...int) (l []operation) {
	for i, x := range places {
		l = append(l, operation{
			disk: x.disk, sector: x.sector, b: frame.Put(x.f),
			err: layer("rack.Write", x.disk, api.ErrDown), written: i + 1,
		})
	}
	if len(places) == 0 {
		return nil
	}
	for _, d := range online {
		l = append(l, operation{disk: d, flush: true, err: layer("rack.Flush", d, api.ErrDown), written: len(places)})
	}
	return l
}

// naming tells the operations of a Tick that writes the superblocks of these disks.
func naming(c api.Config, disks ...int) (l []operation) {
	for i, d := range disks {
		within := func(op string) error { return layer("super.Put", d, layer(op, d, api.ErrDown)) }
		l = append(l,
			operation{disk: d, b: frame.Put(superFrame(c, d)), err: within("rack.Write"), written: i},
			operation{disk: d, flush: true, err: within("rack.Flush"), written: i + 1})
	}
	return l
}

// trial is a Tick: the group, what it finds behind the commits of a history, its operations, and the error inside its
// own layer if all of them go ahead.
type trial struct {
	name  string
	h     history
	group int
	spoil func(r *rack.Rack)
	l     []operation
	end   error
}

// prepare wants a volume that has had the commits, spoiled, and a Mend at the group.
func (x trial) prepare(t *testing.T) (*rack.Rack, *volume.Volume, *Mend) {
	t.Helper()
	r, v := started(t, x.h.c)
	for _, y := range x.h.l {
		commits(t, x.name, v, y)
	}
	m := mender(t, v, x.group)
	x.spoil(r)
	return r, v, m
}

// written tells how many frames are written behind n operations.
func (x trial) written(n int) int {
	if n == 0 {
		return 0
	}
	return x.l[n-1].written
}

// ordered wants the operations to be just those, in their order: behind each one fewer the power fails, and then the
// answer and what is stored and what waits show which went ahead.
func (x trial) ordered(t *testing.T) {
	t.Helper()
	for n := range len(x.l) + 2 {
		went := min(n, len(x.l))
		for _, keeps := range []bool{true, false} {
			r, v, m := x.prepare(t)
			stored, waiting := sees(r), sees(r)
			for _, o := range x.l[:went] {
				if o.flush {
					stored[o.disk] = slices.Clone(waiting[o.disk])
				} else {
					waiting[o.disk][o.sector] = o.b
				}
			}
			r.Arm(n)
			if went < len(x.l) {
				answers(t, x.name, m, v, x.written(went), x.l[went].err, true)
			} else {
				answers(t, x.name, m, v, x.written(went), x.end, false)
			}
			if r.Off() != (went < len(x.l)) {
				t.Fatalf("%s: the power is off: %v, behind %d of %d operations", x.name, r.Off(), n, len(x.l))
			}
			if went == len(x.l) && len(r.Online()) > 0 {
				remain(t, x.name, r, n-went)
			}
			if keeps {
				r.Boot(everything()...)
				looks(t, x.name+", all kept", r, waiting)
			} else {
				r.Boot()
				looks(t, x.name+", none kept", r, stored)
			}
		}
	}
}

// zeroBytes tells some.
func zeroBytes(many int) []byte { return make([]byte, many) }

// P13.3 to P13.5: what the Ticks write to a disk that was replaced, written out, with one block
func TestReplacedWrittenOut(t *testing.T) {
	c := api.Config{Id: 0x0A0B0C0D, K: 1, N: 2, Stripes: 2, Slots: 2}
	r, v := started(t, c)
	l := zeros(1)
	l[0][0], l[0][107] = 7, 9
	done(t, "Commit", v.Commit(1, l))
	m := New(v)
	r.Replace(1)
	was := sees(r)
	stored := slices.Concat([]byte{7}, zeroBytes(106), []byte{9})
	frames := [][]byte{
		slices.Concat([]byte{0x53, 0x54, 1, 1, 0, 0, 0, 0, 1, 0, 0, 0, 0, 0, 0, 0}, []byte{0x0D, 0x0C, 0x0B, 0x0A, 1, 2, 2, 2}, zeroBytes(100)),
		slices.Concat([]byte{0x53, 0x54, 2, 0, 1, 0, 0, 0, 2, 0, 0, 0, 0, 0, 0, 0}, stored),
		slices.Concat([]byte{0x53, 0x54, 2, 0, 0, 0, 0, 0, 0, 0, 0, 0, 0, 0, 0, 0}, zeroBytes(108)),
		slices.Concat([]byte{0x53, 0x54, 3, 1, 0, 0, 0, 0, 1, 0, 0, 0, 0, 0, 0, 0}, zeroBytes(108)),
		slices.Concat([]byte{0x53, 0x54, 3, 1, 1, 0, 0, 0, 2, 0, 0, 0, 0, 0, 0, 0}, stored),
	}
	for group, b := range frames {
		writes(t, "replaced", m, v, 1)
		was[1][group] = summed(b...)
		looks(t, "replaced", r, was)
	}
	r.Boot()
	looks(t, "replaced and booted", r, was)
}

// P13.3 to P13.5: the same with two blocks: places of a slot, and fragments that are sums
func TestReplacedMoreWrittenOut(t *testing.T) {
	c := api.Config{Id: 300, K: 2, N: 3, Stripes: 1, Slots: 1}
	r, v := started(t, c)
	l := zeros(2)
	l[0][0], l[1][0] = 1, 2
	l[1][107] = 3
	done(t, "Commit", v.Commit(0, l))
	m := New(v)
	r.Replace(2)
	was := sees(r)
	// The inverse of 2 is 0x8e and that of 3 is 0xf4: 0x8e + 2 * 0xf4, and 3 * 0xf4.
	sum := slices.Concat([]byte{0x8e ^ 0xf5}, zeroBytes(106), []byte{1})
	for _, step := range [][][]byte{
		{slices.Concat([]byte{0x53, 0x54, 1, 2, 0, 0, 0, 0, 1, 0, 0, 0, 0, 0, 0, 0}, []byte{44, 1, 0, 0, 2, 3, 1, 1}, zeroBytes(100))},
		{
			slices.Concat([]byte{0x53, 0x54, 2, 0, 0, 0, 0, 0, 2, 0, 0, 0, 0, 0, 0, 0}, l[0][:]),
			slices.Concat([]byte{0x53, 0x54, 2, 1, 0, 0, 0, 0, 2, 0, 0, 0, 0, 0, 0, 0}, l[1][:]),
		},
		{slices.Concat([]byte{0x53, 0x54, 3, 2, 0, 0, 0, 0, 2, 0, 0, 0, 0, 0, 0, 0}, sum)},
	} {
		sector := []int{0, 1, 3}[m.At()]
		for i, b := range step {
			was[2][sector+i] = summed(b...)
		}
		writes(t, "replaced", m, v, len(step))
		looks(t, "replaced", r, was)
	}
	r.Boot()
	looks(t, "replaced and booted", r, was)
}

// P13.3: superblocks of which disks are missing: each set of them, none and all, with each set of the others dead
func TestSupersOfEachSet(t *testing.T) {
	t.Parallel()
	for _, c := range []api.Config{config(2, 4, 1, 1), config(1, 3, 2, 1), config(1, 1, 1, 1), config(3, 3, 1, 1)} {
		for way := range 1 << (2 * c.N) {
			missing, dead := disksOf(way%(1<<c.N)), disksOf(way>>c.N)
			if slices.ContainsFunc(dead, func(d int) bool { return slices.Contains(missing, d) }) {
				continue
			}
			r, v := started(t, c)
			want := sees(r)
			for _, d := range dead {
				r.Die(d)
				want[d] = make([][]byte, r.Sectors())
			}
			wipe(t, r, 0, missing...)
			m := New(v)
			r.Arm(2 * len(missing))
			writes(t, "a set", m, v, len(missing))
			looks(t, "a set", r, want)
			if len(r.Online()) > 0 {
				remain(t, "a set", r, 0)
			}
			r.Boot()
			looks(t, "a set, booted", r, want)
			if m = New(v); len(r.Online()) > 0 {
				r.Arm(0)
				writes(t, "again", m, v, 0)
				remain(t, "again", r, 0)
			}
		}
	}
}

// otherSupers tells frames that are not the superblock that disk d should have.
func otherSupers(c api.Config, d int) (l []api.Frame) {
	right := superFrame(c, d)
	for _, change := range []func(c *api.Config){
		func(c *api.Config) { c.Id++ },
		func(c *api.Config) { c.Id += 1 << 24 },
		func(c *api.Config) { c.K++ },
		func(c *api.Config) { c.K-- },
		func(c *api.Config) { c.N++ },
		func(c *api.Config) { c.Stripes-- },
		func(c *api.Config) { c.Stripes++ },
		func(c *api.Config) { c.Slots-- },
		func(c *api.Config) { c.Slots++ },
		func(c *api.Config) { *c = api.Config{Id: 1, K: 1, N: 1, Stripes: 1, Slots: 1} },
		func(c *api.Config) { *c = api.Config{} },
	} {
		x := c
		change(&x)
		l = append(l, superFrame(x, d))
	}
	for _, change := range []func(f *api.Frame){
		func(f *api.Frame) { f.Kind = 2 },
		func(f *api.Frame) { f.Kind = 3 },
		func(f *api.Frame) { f.Slot = (f.Slot + 1) % c.N },
		func(f *api.Frame) { f.Stripe = 1 },
		func(f *api.Frame) { f.Gen = 0 },
		func(f *api.Frame) { f.Gen = 2 },
		func(f *api.Frame) { f.Data[8] = 1 },
		func(f *api.Frame) { f.Data[107] = 1 },
	} {
		x := right
		change(&x)
		l = append(l, x)
	}
	return l
}

// P13.3: what is not the superblock of the volume's configuration is overwritten, step by step: other frames, no frames,
// and a frame that rotted
func TestOtherSupers(t *testing.T) {
	c := plain()
	h := history{c: c}
	for i := range otherSupers(c, 0) {
		for _, disks := range [][]int{{0}, {3}, {1, 2, 4}, below(5)} {
			trial{"another superblock", h, 0, func(r *rack.Rack) {
				for _, d := range disks {
					lay(t, r, 0, frame.Put(otherSupers(c, d)[i]), d)
				}
			}, naming(c, disks...), nil}.ordered(t)
		}
	}
	trial{"no frames", h, 0, func(r *rack.Rack) {
		wipe(t, r, 0, 2)
		lay(t, r, 0, other(3), 0)
		if !r.Rot(4, 0, 124, 1<<31) {
			t.Error("it does not rot")
		}
		r.Die(1)
	}, naming(c, 0, 2, 4), nil}.ordered(t)
	trial{"all are replaced", h, 0, func(r *rack.Rack) {
		for d := range 5 {
			r.Replace(d)
		}
	}, naming(c, below(5)...), nil}.ordered(t)
	trial{"all are dead", h, 0, func(r *rack.Rack) {
		for d := range 5 {
			r.Die(d)
		}
	}, nil, nil}.ordered(t)
}

// P13.3: a volume made anew over the open one has another configuration, which the Mend of the open one overwrites.
func TestSupersOfAnotherVolume(t *testing.T) {
	c := config(2, 3, 2, 1)
	r, v := started(t, c)
	x := c
	x.Id++
	done(t, "Make", volume.Make(r, x))
	if found, err := super.Find(r); found != x || err != nil {
		t.Fatalf("Find is %v, %#v", found, err)
	}
	writes(t, "made anew", New(v), v, 3)
	if found, err := super.Find(r); found != c || err != nil {
		t.Errorf("Find is %v, %#v", found, err)
	}
}

// wrongOnes tells bytes that are not the frame that should be at a place, and that no group takes for a newer one.
func (h history) wrongOnes(x place) map[string][]byte {
	changed := func(change func(f *api.Frame)) []byte {
		f := x.f
		change(&f)
		return frame.Put(f)
	}
	rotten := frame.Put(x.f)
	rotten[60] ^= 4
	short := frame.Put(x.f)
	short[127] ^= 128
	l := map[string][]byte{
		"bytes 0":           zeroBytes(api.Sector),
		"no frame":          other(x.sector),
		"a byte rotted":     rotten,
		"the sum rotted":    short,
		"of another kind":   changed(func(f *api.Frame) { f.Kind = 5 - f.Kind }),
		"a superblock":      changed(func(f *api.Frame) { f.Kind = 1 }),
		"another's":         changed(func(f *api.Frame) { f.Slot = (f.Slot + 1) % api.MaxN }),
		"one before's":      changed(func(f *api.Frame) { f.Slot = (f.Slot + api.MaxN - 1) % api.MaxN }),
		"of no stripe":      changed(func(f *api.Frame) { f.Stripe = api.MaxStripes - 1 }),
		"of an elder one":   changed(func(f *api.Frame) { f.Gen = h.elder(*f); f.Data[3] ^= 5 }),
		"elder, else alike": changed(func(f *api.Frame) { f.Gen = h.elder(*f) }),
		"the eldest one":    changed(func(f *api.Frame) { f.Gen = h.eldest(*f); f.Data[100] ^= 1 }),
	}
	if x.f.Kind == 2 {
		l["of Gen 1"] = changed(func(f *api.Frame) { f.Gen = 1 })
		if h.c.Slots > 1 {
			slot := (x.sector - 1) / h.c.K
			l["of another slot"] = changed(func(f *api.Frame) { f.Gen = slot + 1 + 20*h.c.Slots; f.Data[1] ^= 1 })
		}
		if x.f.Gen > 0 {
			l["of an unused slot"] = frame.Put(api.Frame{Kind: 2, Slot: x.f.Slot})
		}
	} else {
		l["of another stripe"] = changed(func(f *api.Frame) { f.Stripe = (f.Stripe + 1) % api.MaxStripes; f.Gen += 5 })
		l["of another disk, newer"] = changed(func(f *api.Frame) { f.Slot = (f.Slot + 1) % api.MaxN; f.Gen += 5 })
	}
	return l
}

// elder tells a Gen that is less than that of a frame and could be its group's, or else one that counts as none; eldest
// the least one of these.
func (h history) elder(f api.Frame) int {
	step := 1
	if f.Kind == 2 {
		step = h.c.Slots
	}
	if f.Gen-step > 1 {
		return f.Gen - step
	}
	return h.eldest(f)
}

func (h history) eldest(f api.Frame) int {
	if f.Kind == 2 && f.Gen == 0 {
		return 1
	}
	return 0
}

// P13.4, P13.5: each group but that of the superblocks, each set of disks on which it is missing as long as enough have
// it, each way of missing; one disk is dead or none. Just the wanted frames are written, and then all that are online
// are flushed.
func TestMissingOnEachSet(t *testing.T) {
	for _, c := range []api.Config{config(2, 4, 3, 3), config(1, 3, 2, 1), config(3, 4, 2, 2), config(1, 2, 1, 4)} {
		t.Run(strconv.Itoa(c.K)+" of "+strconv.Itoa(c.N), func(t *testing.T) {
			t.Parallel()
			for group := 1; group < groupsOf(c); group++ {
				for set := range 1 << c.N {
					for dead := -1; dead < c.N; dead++ {
						missingOn(t, c, group, without(c.N, append(disksOf(set), dead)...), dead)
					}
				}
			}
		})
	}
}

// missingOn wants a Tick to repair a group that some disks miss.
func missingOn(t *testing.T, c api.Config, group int, missing []int, dead int) {
	t.Helper()
	has := c.N - len(missing)
	if dead >= 0 {
		has--
	}
	if has < 1 || group > c.Slots && has < c.K {
		return
	}
	h := filledHistory(c)
	ways := h.wrongOnes(h.places(group, 0)[0])
	for way := range ways {
		r, v := started(t, c)
		for _, x := range h.l {
			commits(t, way, v, x)
		}
		m := mender(t, v, group)
		want := sees(r)
		if dead >= 0 {
			r.Die(dead)
			want[dead] = make([][]byte, r.Sectors())
		}
		l := h.places(group, missing...)
		for _, x := range l {
			lay(t, r, x.sector, h.wrongOnes(x)[way], x.disk)
		}
		if len(l) > 0 {
			r.Arm(len(l) + len(r.Online()))
		} else {
			r.Arm(0)
		}
		writes(t, way, m, v, len(l))
		looks(t, way, r, want)
		remain(t, way, r, 0)
		r.Boot()
		looks(t, way+", booted", r, want)
		h.readsAll(t, way, v)
	}
}

// filledHistory tells commits as filled makes them: one fewer than the slots, so that one is unused, but at least one.
func filledHistory(c api.Config) history {
	h := history{c: c}
	for seq := 2; seq < 2+max(1, c.Slots-1); seq++ {
		h.l = append(h.l, rec(c.K, seq, (seq*seq/2)%c.Stripes))
	}
	return h
}

// P13.4: each set of the places of a slot on each disk
func TestMissingPlaces(t *testing.T) {
	t.Parallel()
	c := config(2, 3, 2, 2)
	for slot := range 2 {
		for set := range 1 << 6 {
			h := filledHistory(c)
			r, v := started(t, c)
			for _, x := range h.l {
				commits(t, "places", v, x)
			}
			m := mender(t, v, slotGroup(slot))
			want := sees(r)
			var l []place
			lost := set%2 == 1 && set>>2%2 == 1 && set>>4%2 == 1 || set>>1%2 == 1 && set>>3%2 == 1 && set>>5%2 == 1
			for i, x := range h.places(slotGroup(slot), 0, 1, 2) {
				if set>>i%2 == 1 {
					wipe(t, r, x.sector, x.disk)
					l = append(l, x)
				}
			}
			was := sees(r)
			if lost {
				r.Arm(0)
				answers(t, "places", m, v, 0, lostSlot(slot), false)
				looks(t, "places", r, was)
				remain(t, "places", r, 0)
				continue
			}
			r.Arm(len(storing(l, 0, 1, 2)))
			writes(t, "places", m, v, len(l))
			looks(t, "places", r, want)
			remain(t, "places", r, 0)
			r.Boot()
			looks(t, "places, booted", r, want)
		}
	}
}

// P13.3 to P13.5: a disk that was replaced, and one that is dead or none, in each kind of group: the operations in their
// order and the error at each, for each K and each number of disks
func TestOrderReplaced(t *testing.T) {
	for _, c := range configs() {
		t.Run(strconv.Itoa(c.K)+" of "+strconv.Itoa(c.N), func(t *testing.T) {
			t.Parallel()
			for _, group := range []int{0, 1, c.Slots, stripeGroup(c, 0), groupsOf(c) - 1} {
				for dead := -1; dead < min(2, c.N-1); dead++ {
					orderReplaced(t, c, group, c.N-1, dead)
				}
			}
		})
	}
}

// orderReplaced wants a Tick of a group to go in order where one disk was replaced and another one is dead, if enough
// have the group then.
func orderReplaced(t *testing.T, c api.Config, group, replaced, dead int) {
	t.Helper()
	online := without(c.N, dead)
	if len(online) == 1 || group > c.Slots && len(online) <= c.K {
		return
	}
	h := filledHistory(c)
	l := storing(h.places(group, replaced), online...)
	if group == 0 {
		l = naming(c, replaced)
	}
	trial{"replaced", h, group, func(r *rack.Rack) {
		r.Die(dead)
		r.Replace(replaced)
	}, l, nil}.ordered(t)
}

// P13.3 to P13.5: all disks but as many as are needed were replaced: the order of the operations, the error at each
// and the number of frames written by then
func TestOrderManyReplaced(t *testing.T) {
	t.Parallel()
	for _, c := range few() {
		h := filledHistory(c)
		for group := range groupsOf(c) {
			replaced := below(c.N - c.K)
			if group > 0 && group <= c.Slots {
				replaced = without(c.N, c.N/2)
			}
			if group == 0 {
				replaced = below(c.N)
			}
			l := storing(h.places(group, replaced...), below(c.N)...)
			if group == 0 {
				l = naming(c, replaced...)
			}
			trial{"replaced", h, group, func(r *rack.Rack) {
				for _, d := range replaced {
					r.Replace(d)
				}
			}, l, nil}.ordered(t)
		}
	}
}

// P13.2: the layers of the errors, and the numbers beside them, written out
func TestErrorLayers(t *testing.T) {
	c := config(2, 3, 2, 1)
	type want struct {
		written int
		path    []string
		at      []int
	}
	put := []string{"mend.Tick", "super.Put"}
	for group, l := range [][]want{
		{
			{0, append(put, "rack.Write"), []int{0, 0, 0}}, {0, append(put, "rack.Flush"), []int{0, 0, 0}},
			{1, append(put, "rack.Write"), []int{0, 1, 1}}, {1, append(put, "rack.Flush"), []int{0, 1, 1}},
		},
		{
			{0, []string{"mend.Tick", "rack.Write"}, []int{1, 0}}, {1, []string{"mend.Tick", "rack.Write"}, []int{1, 0}},
			{2, []string{"mend.Tick", "rack.Write"}, []int{1, 1}}, {3, []string{"mend.Tick", "rack.Write"}, []int{1, 1}},
			{4, []string{"mend.Tick", "rack.Flush"}, []int{1, 0}}, {4, []string{"mend.Tick", "rack.Flush"}, []int{1, 1}},
			{4, []string{"mend.Tick", "rack.Flush"}, []int{1, 2}},
		},
		{
			{0, []string{"mend.Tick", "rack.Write"}, []int{2, 1}}, {1, []string{"mend.Tick", "rack.Flush"}, []int{2, 0}},
			{1, []string{"mend.Tick", "rack.Flush"}, []int{2, 1}}, {1, []string{"mend.Tick", "rack.Flush"}, []int{2, 2}},
		},
	} {
		for fuse, x := range l {
			r, v := started(t, c)
			m := mender(t, v, group)
			r.Replace(1)
			if group < 2 {
				r.Replace(0)
			}
			r.Arm(fuse)
			n, err := m.Tick()
			var f api.Fault
			rest := err
			for i, op := range x.path {
				if !errors.As(rest, &f) || f.Op != op || f.At != x.at[i] {
					t.Errorf("group %d, operation %d: %#v, want %q at %d", group, fuse, err, x.path, x.at)
				}
				rest = f.Err
			}
			if rest != api.ErrDown || !errors.Is(err, api.ErrDown) || fault.Kind(err) != api.ErrDown || len(fault.Path(err)) != len(x.path) {
				t.Errorf("group %d, operation %d: %#v", group, fuse, err)
			}
			if n != x.written || !v.Down() || m.At() != group+1 {
				t.Errorf("group %d, operation %d: %d frames, Down %v, at %d", group, fuse, n, v.Down(), m.At())
			}
			n, err = m.Tick()
			refused(t, "the next Tick", err, layer("mend.Tick", group+1, api.ErrDown))
			if n != 0 || m.At() != group+1 {
				t.Errorf("the next Tick is %d, at %d", n, m.At())
			}
		}
	}
}

// blankPlaces tells the places of a slot that no commit has used, on all disks.
func blankPlaces(c api.Config, slot int) (l []place) {
	for d := range c.N {
		for i := range c.K {
			l = append(l, place{d, slotAt(c, slot, i), api.Frame{Kind: 2, Slot: i}})
		}
	}
	return l
}

// some tells those places whose numbers are given.
func some(l []place, numbers ...int) (out []place) {
	for _, n := range numbers {
		out = append(out, l[n])
	}
	return out
}

// P13.4: what a Tick does of a slot, by what it finds there: records that are complete, on one disk alone or spread over
// several, those that are not, elder ones beside them, and what counts as none
func TestSlots(t *testing.T) {
	t.Parallel()
	c := config(2, 3, 3, 2)
	old := rec(2, 3, 2)
	h := history{c, []api.Rec{rec(2, 2, 0), old}}
	x, elsewhere := rec(2, 5, 1), rec(2, 5, 0)
	whole := history{c, []api.Rec{x}}.places(2, 0, 1, 2)
	was := history{c, []api.Rec{old}}.places(2, 0, 1, 2)
	every, blank := below(3), blankPlaces(c, 1)
	log := func(r *rack.Rack, x api.Rec, disks ...int) {
		layRec(t, r, c, x, 0, disks...)
		layRec(t, r, c, x, 1, disks...)
	}
	odd := func(r *rack.Rack, i int, f api.Frame, disks ...int) {
		lay(t, r, slotAt(c, 1, i), frame.Put(f), disks...)
	}
	changed := recFrame(x, 0)
	changed.Data[9] ^= 1
	ofChanged := slices.Clone(whole)
	for _, i := range []int{0, 2, 4} {
		ofChanged[i].f = changed
	}
	zero := api.Rec{Stripe: 2, Blocks: blocks(2, 60)}
	ofZero := history{c, []api.Rec{{Stripe: 2, Blocks: zero.Blocks, Seq: 3}}}.places(2, 0, 1, 2)
	for i := range ofZero {
		ofZero[i].f.Gen = 0
	}
	for _, y := range []struct {
		name  string
		spoil func(r *rack.Rack)
		l     []place
		end   error
	}{
		{"nothing is missing", func(r *rack.Rack) {}, nil, nil},
		{"a newer one on disk 0 alone", func(r *rack.Rack) { log(r, x, 0) }, whole[2:], nil},
		{"a newer one on disk 1 alone", func(r *rack.Rack) { log(r, x, 1) }, some(whole, 0, 1, 4, 5), nil},
		{"a newer one on disk 2 alone", func(r *rack.Rack) { log(r, x, 2) }, whole[:4], nil},
		{"half of a newer one each on two disks", func(r *rack.Rack) {
			layRec(t, r, c, x, 0, 2)
			layRec(t, r, c, x, 1, 0)
		}, some(whole, 0, 2, 3, 5), nil},
		{"half of a newer one on all disks, the other half on one", func(r *rack.Rack) {
			layRec(t, r, c, x, 0, every...)
			layRec(t, r, c, x, 1, 1)
		}, some(whole, 1, 5), nil},
		{"half of a newer one on one disk", func(r *rack.Rack) { layRec(t, r, c, x, 0, 1) }, blank, nil},
		{"the other half of a newer one on all disks", func(r *rack.Rack) { layRec(t, r, c, x, 1, every...) }, blank, nil},
		{"half of a newer one over an unused slot", func(r *rack.Rack) {
			for i := range 2 {
				odd(r, i, api.Frame{Kind: 2, Slot: i}, every...)
			}
			layRec(t, r, c, x, 0, 2)
		}, some(blank, 4), nil},
		{"half of a newer one, the rest blank here and there", func(r *rack.Rack) {
			layRec(t, r, c, x, 1, every...)
			odd(r, 0, api.Frame{Kind: 2}, 1)
		}, some(blank, 0, 1, 3, 4, 5), nil},
		{"the halves are of two stripes", func(r *rack.Rack) {
			layRec(t, r, c, x, 0, every...)
			layRec(t, r, c, elsewhere, 1, every...)
		}, blank, nil},
		{"the first disk's half is of another stripe than the others'", func(r *rack.Rack) {
			log(r, x, 1, 2)
			layRec(t, r, c, elsewhere, 0, 0)
		}, blank, nil},
		{"the last disk's half is of another stripe than the others'", func(r *rack.Rack) {
			log(r, x, 0, 1)
			layRec(t, r, c, elsewhere, 0, 2)
		}, some(whole, 4, 5), nil},
		{"the first disk's other half is of another stripe", func(r *rack.Rack) {
			log(r, x, every...)
			layRec(t, r, c, elsewhere, 1, 0, 1)
		}, some(whole, 1, 3), nil},
		{"other blocks on the last disk", func(r *rack.Rack) {
			log(r, x, every...)
			odd(r, 0, changed, 2)
		}, some(whole, 4), nil},
		{"other blocks on the first disk", func(r *rack.Rack) {
			log(r, x, every...)
			odd(r, 0, changed, 0)
		}, some(ofChanged, 2, 4), nil},
		{"Gen 1 on a disk", func(r *rack.Rack) { log(r, rec(2, 1, 1), 0) }, was[:2], nil},
		{"a Gen of the other slot on a disk", func(r *rack.Rack) {
			for i := range 2 {
				odd(r, i, recFrame(rec(2, 8, 1), i), 2)
			}
		}, was[4:], nil},
		{"a stripe beyond the last one on a disk", func(r *rack.Rack) { log(r, rec(2, 7, 3), 1) }, was[2:4], nil},
		{"the places are exchanged on a disk", func(r *rack.Rack) {
			for i := range 2 {
				odd(r, i, recFrame(x, 1-i), 1)
			}
		}, was[2:4], nil},
		{"an unused slot that misses two frames", func(r *rack.Rack) {
			for i := range 2 {
				odd(r, i, api.Frame{Kind: 2, Slot: i}, every...)
				wipe(t, r, slotAt(c, 1, i), i+1)
			}
		}, some(blank, 2, 5), nil},
		{"a record of Seq 0 on a disk that is no unused slot's", func(r *rack.Rack) {
			for i := range 2 {
				wipe(t, r, slotAt(c, 1, i), every...)
				odd(r, i, api.Frame{Kind: 2, Slot: i, Stripe: 2, Data: zero.Blocks[i]}, 1)
			}
		}, some(ofZero, 0, 1, 4, 5), nil},
		{"records of Seq 0 that are of two stripes", func(r *rack.Rack) {
			odd(r, 0, api.Frame{Kind: 2, Stripe: 2, Data: zero.Blocks[0]}, every...)
			odd(r, 1, api.Frame{Kind: 2, Slot: 1, Stripe: 1}, every...)
		}, blank, nil},
		{"one disk has it and two are replaced", func(r *rack.Rack) { r.Replace(0); r.Replace(2) }, some(was, 0, 1, 4, 5), nil},
		{"never written", func(r *rack.Rack) { wipe(t, r, 3, every...); wipe(t, r, 4, every...) }, nil, lostSlot(1)},
		{"a half never written", func(r *rack.Rack) { wipe(t, r, 3, every...) }, nil, lostSlot(1)},
		{"the other half never written", func(r *rack.Rack) { wipe(t, r, 4, every...) }, nil, lostSlot(1)},
		{"half of a newer one and nothing else", func(r *rack.Rack) {
			layRec(t, r, c, x, 0, every...)
			wipe(t, r, 4, every...)
		}, nil, lostSlot(1)},
		{"Gen 1 on all disks", func(r *rack.Rack) { log(r, rec(2, 1, 1), every...) }, nil, lostSlot(1)},
		{"all are replaced", func(r *rack.Rack) { r.Replace(0); r.Replace(1); r.Replace(2) }, nil, lostSlot(1)},
	} {
		trial{y.name, h, slotGroup(1), y.spoil, storing(y.l, every...), y.end}.ordered(t)
	}
}

// P13.4: slots with the least and the greatest Seq, in each slot
func TestSlotsOfEachSeq(t *testing.T) {
	t.Parallel()
	for slots := 1; slots <= api.MaxSlots; slots++ {
		c := config(2, 3, 2, slots)
		for _, seq := range []int{2, 3, 4, 5, 255, 256, 1 << 32, 1<<60 - 3, 1<<60 - 2, 1<<60 - 1, 1 << 60} {
			x := rec(2, seq, seq%2)
			l := history{c, []api.Rec{x}}.places(slotGroup(seq%slots), 0, 1, 2)
			trial{"a record", history{c: c}, slotGroup(seq % slots), func(r *rack.Rack) {
				layRec(t, r, c, x, 0, 0)
				layRec(t, r, c, x, 1, 1)
			}, storing(some(l, 1, 2, 4, 5), 0, 1, 2), nil}.ordered(t)
		}
	}
}

// P13.4: behind a Tick of a slot, journal.Slot tells what the words of the promise say, from each disk alone.
func TestSlotBehindATick(t *testing.T) {
	c := config(3, 4, 3, 2)
	x := rec(3, 5, 1)
	for half := range 8 {
		for only := range 4 {
			r, v, _ := filled(t, c, 2)
			m := mender(t, v, slotGroup(1))
			for i := range 3 {
				if half>>i%2 == 1 {
					layRec(t, r, c, x, i, (only+i)%4)
				}
			}
			want := rec(3, 3, 4%3)
			if half == 7 {
				want = x
			} else if half > 0 {
				want = api.Rec{Blocks: zeros(3)}
			}
			if n, err := m.Tick(); err != nil || (n == 0) != (half == 0) {
				t.Errorf("half %d: the Tick is %d, %#v", half, n, err)
			}
			r.Boot()
			for _, d := range without(4, only) {
				r.Die(d)
			}
			got, complete, newest, err := journal.Slot(r, c, 1)
			if got.Seq != want.Seq || got.Stripe != want.Stripe || !slices.Equal(got.Blocks, want.Blocks) || !complete || newest != want.Seq || err != nil {
				t.Errorf("half %d, disk %d: Slot is Seq %d, %v, %d, %#v, want %d", half, only, got.Seq, complete, newest, err, want.Seq)
			}
		}
	}
}

// P13.5: what a Tick does of a stripe, by what it finds there: exactly K frames, one fewer, newer generations that were
// begun, elder ones, frames that count as none
func TestStripes(t *testing.T) {
	t.Parallel()
	c := config(2, 4, 3, 2)
	old, x := rec(2, 2, 1), rec(2, 9, 1)
	h := history{c, []api.Rec{old, rec(2, 3, 0)}}
	group := stripeGroup(c, 1)
	every := below(4)
	was := h.places(group, every...)
	newer := history{c, []api.Rec{x}}.places(group, every...)
	odd := func(r *rack.Rack, f api.Frame, disks ...int) { lay(t, r, stripeAt(c, 1), frame.Put(f), disks...) }
	zero := x
	zero.Seq = 0
	for _, y := range []struct {
		name  string
		spoil func(r *rack.Rack)
		l     []place
		end   error
	}{
		{"nothing is missing", func(r *rack.Rack) {}, nil, nil},
		{"the first K are there", func(r *rack.Rack) { wipe(t, r, stripeAt(c, 1), 2, 3) }, was[2:], nil},
		{"the last K are there", func(r *rack.Rack) { wipe(t, r, stripeAt(c, 1), 0, 1) }, was[:2], nil},
		{"K in between are there", func(r *rack.Rack) { r.Replace(0); r.Replace(3) }, some(was, 0, 3), nil},
		{"K and one more are there", func(r *rack.Rack) { r.Replace(1) }, some(was, 1), nil},
		{"one fewer is there", func(r *rack.Rack) { wipe(t, r, stripeAt(c, 1), 0, 1, 3) }, nil, lostStripe(c, 1, 1)},
		{"none is there", func(r *rack.Rack) { wipe(t, r, stripeAt(c, 1), every...) }, nil, lostStripe(c, 1, 0)},
		{"a newer one on one disk", func(r *rack.Rack) { layStripe(t, r, c, x, 2) }, nil, lostStripe(c, 1, 1)},
		{"a newer one on K disks", func(r *rack.Rack) { layStripe(t, r, c, x, 1, 3) }, some(newer, 0, 2), nil},
		{"a newer one on all but one", func(r *rack.Rack) { layStripe(t, r, c, x, 0, 1, 2) }, newer[3:], nil},
		{"two newer ones", func(r *rack.Rack) {
			layStripe(t, r, c, rec(2, 8, 1), 0, 1)
			layStripe(t, r, c, x, 2, 3)
		}, newer[:2], nil},
		{"the newest one of two on one disk", func(r *rack.Rack) {
			layStripe(t, r, c, rec(2, 8, 1), 0, 1, 2)
			layStripe(t, r, c, x, 3)
		}, nil, lostStripe(c, 1, 1)},
		{"a newer one by one", func(r *rack.Rack) { layStripe(t, r, c, rec(2, 3, 1), 0, 3) },
			history{c, []api.Rec{rec(2, 3, 1)}}.places(group, 1, 2), nil},
		{"the greatest generation", func(r *rack.Rack) { layStripe(t, r, c, rec(2, 1<<60, 1), 0, 3) },
			history{c, []api.Rec{rec(2, 1<<60, 1)}}.places(group, 1, 2), nil},
		{"an elder one on two disks", func(r *rack.Rack) { layStripe(t, r, c, rec(2, 1, 1), 0, 3) }, some(was, 0, 3), nil},
		{"an elder one on three disks", func(r *rack.Rack) { layStripe(t, r, c, rec(2, 1, 1), 0, 1, 3) }, nil, lostStripe(c, 1, 1)},
		{"Gen 0 on two disks", func(r *rack.Rack) { layStripe(t, r, c, zero, 0, 1) }, was[:2], nil},
		{"Gen 0 on all disks", func(r *rack.Rack) { layStripe(t, r, c, zero, every...) }, nil, lostStripe(c, 1, 0)},
		{"frames of a disk on the next one", func(r *rack.Rack) {
			for d := range 2 {
				odd(r, stripeFrame(c, x, d+1), d)
			}
		}, was[:2], nil},
		{"frames of another stripe", func(r *rack.Rack) {
			for d := 2; d < 4; d++ {
				odd(r, stripeFrame(c, rec(2, 3, 0), d), d)
			}
		}, was[2:], nil},
		{"frames of a slot", func(r *rack.Rack) { odd(r, recFrame(x, 0), 0); odd(r, recFrame(x, 1), 1) }, was[:2], nil},
	} {
		trial{y.name, h, group, y.spoil, storing(y.l, every...), y.end}.ordered(t)
	}
}

// P13.5: more frames of one generation than are needed that do not belong to the same blocks: all disks have frames of
// what is read behind the Tick, which is what was read ahead.
func TestStripeOfTwoMinds(t *testing.T) {
	c := config(2, 4, 2, 1)
	for set := range 1 << 4 {
		r, v, _ := filled(t, c, 1)
		m := mender(t, v, stripeGroup(c, 0))
		layStripe(t, r, c, api.Rec{Seq: 7, Stripe: 0, Blocks: blocks(2, 5)}, below(4)...)
		layStripe(t, r, c, api.Rec{Seq: 7, Stripe: 0, Blocks: blocks(2, 6)}, disksOf(set)...)
		l, gen, err := v.Read(0)
		done(t, "Read", err)
		n, err := m.Tick()
		done(t, "Tick", err)
		x := api.Rec{Seq: gen, Blocks: l}
		reads(t, "two minds", v, x)
		if (n == 0) != (set == 0 || set == 15) || gen != 7 {
			t.Errorf("set %d: the Tick wrote %d frames", set, n)
		}
		r.Boot()
		for _, y := range (history{c, []api.Rec{x}}).places(stripeGroup(c, 0), below(4)...) {
			if b, _ := r.Read(y.disk, y.sector); !bytes.Equal(b, frame.Put(y.f)) {
				t.Errorf("set %d: disk %d has another frame", set, y.disk)
			}
		}
	}
}

// P13.5: each number of disks that are online or have the stripe, for each K and each number of disks
func TestStripeOnline(t *testing.T) {
	t.Parallel()
	for _, c := range configs() {
		for gone := range c.N + 1 {
			for _, dead := range []bool{true, false} {
				r, v, h := filled(t, c, 2)
				s := c.Stripes - 1
				m := mender(t, v, stripeGroup(c, s))
				var disks []int
				for i := range gone {
					d := (c.K + 3*c.N - i) % c.N
					if r.Die(d); !dead {
						r.Replace(d)
					}
					disks = append(disks, d)
				}
				slices.Sort(disks)
				was := sees(r)
				if dead {
					disks = nil
				}
				have := c.N - gone
				switch {
				case have >= c.K:
					for _, x := range h.places(stripeGroup(c, s), disks...) {
						was[x.disk][x.sector] = frame.Put(x.f)
					}
					writes(t, "enough", m, v, len(disks))
				case dead:
					answers(t, "too few", m, v, 0, tooFew(s), false)
				default:
					answers(t, "too few", m, v, 0, lostStripe(c, s, have), false)
				}
				looks(t, "online", r, was)
				r.Boot()
				looks(t, "online, booted", r, was)
			}
		}
	}
}

// P13.4: with one disk alone online a slot is repaired, also if that one was just repaired itself; with none it is lost.
func TestSlotOnline(t *testing.T) {
	for _, c := range configs() {
		r, v, _ := filled(t, c, 3)
		want := sees(r)
		for only := range c.N {
			for _, d := range without(c.N, only) {
				r.Die(d)
			}
			m := New(v)
			for range 1 + c.Slots {
				writes(t, "one disk", m, v, 0)
			}
			for _, d := range without(c.N, only) {
				r.Replace(d)
			}
			m = New(v)
			writes(t, "the others are replaced", m, v, c.N-1)
			for range c.Slots {
				writes(t, "the others are replaced", m, v, (c.N-1)*c.K)
			}
			r.Boot()
			got := sees(r)
			for d := range c.N {
				for sector := range stripeAt(c, 0) {
					if !bytes.Equal(got[d][sector], want[d][sector]) {
						t.Errorf("%v: disk %d has another frame at sector %d", c, d, sector)
					}
				}
			}
		}
		for d := range c.N {
			r.Die(d)
		}
		m := New(v)
		writes(t, "none is online", m, v, 0)
		for slot := range c.Slots {
			answers(t, "none is online", m, v, 0, lostSlot(slot), false)
		}
		for s := range c.Stripes {
			answers(t, "none is online", m, v, 0, tooFew(s), false)
		}
		writes(t, "none is online", m, v, 0)
	}
}

// P13.2: a Loss is found through all layers, and a volume is not Down behind it; nor behind too few disks.
func TestLossIsFound(t *testing.T) {
	c := plain()
	r, v, _ := filled(t, c, 3)
	wipe(t, r, slotAt(c, 2, 1), below(5)...)
	wipe(t, r, stripeAt(c, 3), 0, 1, 2, 4)
	want := map[int]api.Loss{slotGroup(2): {Group: 2, Have: 0, Need: 1}, stripeGroup(c, 3): {Group: 3, Have: 1, Need: 2}}
	m := New(v)
	for group := range groupsOf(c) {
		n, err := m.Tick()
		loss, lost := fault.Lost(err)
		if x, is := want[group]; lost != is || loss != x || errors.Is(err, api.ErrLost) != is || (err != nil) != is || n != 0 || v.Down() {
			t.Errorf("group %d: %d, %#v", group, n, err)
		}
		var f api.Fault
		if lost && (!errors.As(err, &f) || f.Op != "mend.Tick" || f.At != group || len(fault.Path(err)) != 2) {
			t.Errorf("group %d: %#v", group, err)
		}
	}
}

// P13.4, P13.5: what waits on the disks counts as there; it is flushed if the group misses a frame on any disk, and is
// not if it misses none.
func TestWhatWaits(t *testing.T) {
	c := config(1, 3, 2, 1)
	x, y := rec(1, 4, 1), rec(1, 6, 1)
	for missing := range 2 {
		r, v, _ := filled(t, c, 1)
		for _, d := range without(3, missing-1) {
			done(t, "Write", r.Write(d, 1, frame.Put(recFrame(x, 0))))
			done(t, "Write", r.Write(d, stripeAt(c, 1), frame.Put(stripeFrame(c, y, d))))
		}
		if missing == 0 {
			done(t, "Write", r.Write(0, stripeAt(c, 1), frame.Put(stripeFrame(c, y, 0))))
		}
		m := mender(t, v, 1)
		writes(t, "a slot waits", m, v, missing)
		if missing == 0 {
			reads(t, "it waits", v, y)
			writes(t, "stripe 0", m, v, 0)
			writes(t, "a stripe waits", m, v, 0)
		}
		r.Boot()
		_, _, newest, _ := journal.Slot(r, c, 0)
		gen, parts := stripe.Look(r, c, 1)
		if missing == 1 && (newest != 4 || gen != 6 || len(parts) != 2) || missing == 0 && (newest != 2 || gen != 1) {
			t.Errorf("missing %d: newest %d, generation %d on %d disks", missing, newest, gen, len(parts))
		}
	}
	// A superblock's flush is that of its disk alone.
	r, v, _ := filled(t, c, 1)
	wipe(t, r, 0, 1)
	for d := range 3 {
		done(t, "Write", r.Write(d, stripeAt(c, 2), other(60)))
	}
	was := sees(r)
	writes(t, "a superblock", New(v), v, 1)
	r.Boot()
	for d := range 3 {
		if b, _ := r.Read(d, stripeAt(c, 2)); bytes.Equal(b, was[d][stripeAt(c, 2)]) != (d == 1) {
			t.Errorf("disk %d was flushed, or was not", d)
		}
	}
}

// P13.2: a Tick tells only what it wrote itself: the numbers of one round do not add up.
func TestNumbersDoNotAddUp(t *testing.T) {
	c := plain()
	r, v, h := filled(t, c, 3)
	for range 3 {
		for d := range 2 {
			r.Replace(d)
			r.Die(2 + d)
			r.Replace(2 + d)
			m := New(v)
			answers(t, "three of five", m, v, 2, nil, false)
			for range 3 {
				writes(t, "three of five", m, v, 4)
			}
			for range 4 {
				writes(t, "three of five", m, v, 2)
			}
			h.readsAll(t, "three of five", v)
		}
	}
}
