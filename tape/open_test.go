package tape

import (
	"slices"
	"testing"

	"stave/api"
	"stave/fault"
	"stave/journal"
	"stave/rack"
	"stave/stripe"
	"stave/super"
	"stave/volume"
)

// P14.4: no used stripe, one, more, and all of them
func TestOpenEachNumberOfStripes(t *testing.T) {
	for _, c := range append(few(), config(1, 1, 64, 1), config(2, 3, 64, 4), config(4, 7, 5, 2)) {
		for many := range c.Stripes + 1 {
			if many > 5 && many < c.Stripes-1 {
				continue
			}
			r, x, l := several(t, c, many)
			has(t, "appended", x, l...)
			opens(t, "opened again", r, l...)
			r.Boot()
			opens(t, "booted", r, l...)
		}
	}
}

// P14.4: Open does what the Open of the volume does, and no more: a power failure at each of its operations
func TestOpenIsTheVolumes(t *testing.T) {
	for _, c := range few() {
		for many := range min(c.Stripes, 2) + 1 {
			for fuse := 0; ; fuse++ {
				r, _, l := several(t, c, many)
				twin, _, _ := several(t, c, many)
				r.Arm(fuse)
				twin.Arm(fuse)
				_, want := volume.Open(twin)
				if want != nil {
					openRefused(t, named("cut short", fuse), r, want)
				} else {
					opens(t, "not cut short", r, l...)
				}
				looks(t, named("cut short", fuse), r, sees(twin))
				if r.Off() != twin.Off() {
					t.Fatalf("fuse %d: the power is off: %v", fuse, r.Off())
				}
				if want == nil {
					remain(t, "not cut short", r, 0)
					break
				}
				r.Boot()
				opens(t, named("cut short and booted", fuse), r, l...)
			}
		}
	}
}

// P14.4: the layers of the errors of the volume's Open, each with its numbers
func TestOpenErrors(t *testing.T) {
	c := config(2, 4, 3, 2)
	for _, x := range []struct {
		name string
		do   func(r *rack.Rack)
		want error
	}{
		{"the power is off", func(r *rack.Rack) { off(t, r) }, api.ErrDown},
		{"no disk", func(r *rack.Rack) { die(r, 0, 1, 2, 3) }, noSuper(0)},
		{"too few disks", func(r *rack.Rack) { die(r, 0, 1, 3) }, noSuper(1)},
		{"all are new", func(r *rack.Rack) { replace(r, 0, 1, 2, 3) }, noSuper(0)},
		{"all but one are new", func(r *rack.Rack) { replace(r, 0, 1, 2) }, noSuper(1)},
		{"no superblock", func(r *rack.Rack) { wipe(t, r, 0, 0, 1, 2, 3) }, noSuper(0)},
		{"too few superblocks", func(r *rack.Rack) { rots(t, r, 0, 1, 2, 3) }, noSuper(1)},
		{"another one's superblock", func(r *rack.Rack) { done(t, "Put", super.Put(r, config(2, 4, 2, 2), 0)) }, noSuper(1)},
		{"slot 0 is lost", func(r *rack.Rack) { wipe(t, r, slotAt(c, 0, 0), 0, 1, 2, 3) }, lostSlot(0)},
		{"slot 1 is lost", func(r *rack.Rack) { rots(t, r, slotAt(c, 1, 1), 0, 1, 2, 3) }, lostSlot(1)},
		{"both slots are lost", func(r *rack.Rack) {
			wipe(t, r, slotAt(c, 0, 1), 0, 1, 2, 3)
			wipe(t, r, slotAt(c, 1, 0), 0, 1, 2, 3)
		}, lostSlot(0)},
		{"the first stripe is lost", func(r *rack.Rack) { wipe(t, r, stripeAt(c, 0), 0, 1, 3) }, lostStripe(c, 0, 1)},
		{"the last stripe is lost", func(r *rack.Rack) { wipe(t, r, stripeAt(c, 2), 0, 1, 2, 3) }, lostStripe(c, 2, 0)},
		{"a slot is lost and a stripe", func(r *rack.Rack) {
			wipe(t, r, stripeAt(c, 0), 0, 1, 2, 3)
			wipe(t, r, slotAt(c, 1, 0), 0, 1, 2, 3)
		}, lostSlot(1)},
		{"two stripes are lost", func(r *rack.Rack) {
			wipe(t, r, stripeAt(c, 2), 0, 1, 2, 3)
			wipe(t, r, stripeAt(c, 0), 1, 2, 3)
		}, lostStripe(c, 0, 1)},
	} {
		for _, many := range []int{0, 2} {
			r, _, _ := several(t, c, many)
			// From a record in the journal Open would write a stripe again that is lost.
			for slot := range 2 {
				done(t, "Blank", journal.Blank(r, c, slot))
			}
			x.do(r)
			openRefused(t, x.name, r, inOpen(x.want))
			if want, lost := fault.Lost(x.want); lost {
				_, _, err := Open(r)
				losing(t, x.name, err, want)
			}
		}
	}
}

// die and replace do so to several disks.
func die(r *rack.Rack, disks ...int) {
	for _, d := range disks {
		r.Die(d)
	}
}

func replace(r *rack.Rack, disks ...int) {
	for _, d := range disks {
		r.Replace(d)
	}
}

// P14.4: racks on which there has never been a volume
func TestOpenOfNoVolume(t *testing.T) {
	for _, size := range [][2]int{{1, 1}, {1, 128}, {3, 8}, {8, 128}} {
		r, err := rack.New(size[0], size[1])
		done(t, "New", err)
		openRefused(t, "no volume", r, inOpen(noSuper(0)))
		off(t, r)
		openRefused(t, "no volume and no power", r, inOpen(api.ErrDown))
		r.Boot()
		die(r, below(size[0])...)
		openRefused(t, "no volume and no disk", r, inOpen(noSuper(0)))
	}
}

// P14.4: the path and the place of each error that Open has
func TestOpenErrorPaths(t *testing.T) {
	c := config(2, 3, 3, 1)
	for _, x := range []struct {
		do    func(r *rack.Rack)
		path  []string
		where int
	}{
		{func(r *rack.Rack) { off(t, r) }, []string{"tape.Open", "volume.Open"}, 0},
		{func(r *rack.Rack) { die(r, 0, 2) }, []string{"tape.Open", "volume.Open", "super.Find"}, 1},
		{func(r *rack.Rack) { wipe(t, r, slotAt(c, 0, 1), 0, 1, 2) }, []string{"tape.Open", "volume.Open", "journal.Slot"}, 0},
		{func(r *rack.Rack) { wipe(t, r, stripeAt(c, 2), 0, 2) }, []string{"tape.Open", "volume.Open", "stripe.Get"}, 2},
		{func(r *rack.Rack) { r.Arm(5) }, []string{"tape.Open", "volume.Open", "journal.Log", "rack.Write"}, 2},
		{func(r *rack.Rack) { r.Arm(7) }, []string{"tape.Open", "volume.Open", "journal.Log", "rack.Flush"}, 1},
		{func(r *rack.Rack) { r.Arm(10) }, []string{"tape.Open", "volume.Open", "stripe.Put", "rack.Write"}, 1},
		{func(r *rack.Rack) { puts(t, r, c, 2, 9, texts("a")) }, []string{"tape.Open"}, 0},
	} {
		r, _, _ := several(t, c, 1)
		x.do(r)
		_, _, err := Open(r)
		if op, at, ok := fault.Where(err); !slices.Equal(fault.Path(err), x.path) || op != x.path[len(x.path)-1] || at != x.where || !ok {
			t.Errorf("the error has the path %q, %s, %d, want %q, %d", fault.Path(err), op, at, x.path, x.where)
		}
	}
}

// sparse tells the first used stripe of a set behind one that is not, if there is one.
func sparse(stripes, set int) (int, bool) {
	gap := false
	for s := range stripes {
		used := set>>s%2 == 1
		if used && gap {
			return s, true
		}
		gap = gap || !used
	}
	return 0, false
}

// P14.4: each set of used stripes: these are the first ones, or there is a Loss of the first one behind a gap.
func TestOpenGaps(t *testing.T) {
	for _, c := range []api.Config{config(1, 1, 6, 1), config(2, 3, 5, 2), config(3, 4, 4, 4)} {
		for set := range 1 << c.Stripes {
			for way := range 2 {
				r, x := started(t, c)
				var l [][][]byte
				for s := c.Stripes - 1; s >= 0; s-- {
					if set>>s%2 == 0 {
						continue
					}
					entries := entriesOf(c.K, 10*set+s)
					l = append([][][]byte{entries}, l...)
					if way == 0 {
						puts(t, r, c, s, 2+(3*set+5*s)%7, entries)
					} else {
						done(t, "Commit", x.Volume().Commit(s, filled(c.K, entries)))
					}
				}
				group, gap := sparse(c.Stripes, set)
				if !gap {
					opens(t, named("no gap", set), r, l...)
					continue
				}
				loss := api.Loss{Group: group, Have: 0, Need: 1}
				openRefused(t, named("a gap", set), r, loss)
				_, _, err := Open(r)
				losing(t, named("a gap", set), err, loss)
			}
		}
	}
}

// P14.4: the gap of a volume with as many stripes as there can be
func TestOpenGapAtEachStripe(t *testing.T) {
	c := config(1, 2, 64, 1)
	r := made(t, c)
	for s := 63; s > 0; s-- {
		puts(t, r, c, s, 2, texts("a"))
		openRefused(t, named("a gap below", s), r, api.Loss{Group: s, Have: 0, Need: 1})
	}
	puts(t, r, c, 0, 2, texts("a"))
	opens(t, "no gap", r, slices.Repeat([][][]byte{texts("a")}, 64)...)
}

// P14.4: an error of the volume's Open goes ahead of a gap, and behind it there is the gap.
func TestOpenErrorsAheadOfGap(t *testing.T) {
	c := config(2, 3, 4, 2)
	for _, x := range []struct {
		do   func(r *rack.Rack)
		want error
	}{
		{func(r *rack.Rack) { off(t, r) }, inOpen(api.ErrDown)},
		{func(r *rack.Rack) { die(r, 1, 2) }, inOpen(noSuper(1))},
		{func(r *rack.Rack) { wipe(t, r, slotAt(c, 1, 0), 0, 1, 2) }, inOpen(lostSlot(1))},
		{func(r *rack.Rack) { wipe(t, r, stripeAt(c, 3), 0, 1) }, inOpen(lostStripe(c, 3, 1))},
		{func(r *rack.Rack) { wipe(t, r, stripeAt(c, 0), 0, 1, 2) }, inOpen(lostStripe(c, 0, 0))},
		{func(r *rack.Rack) { r.Boot() }, api.Loss{Group: 2, Have: 0, Need: 1}},
		{func(r *rack.Rack) { r.Die(1) }, api.Loss{Group: 2, Have: 0, Need: 1}},
		{func(r *rack.Rack) { r.Replace(0) }, api.Loss{Group: 2, Have: 0, Need: 1}},
	} {
		r := made(t, c)
		puts(t, r, c, 0, 4, texts("a"))
		puts(t, r, c, 2, 3, texts("c"))
		x.do(r)
		openRefused(t, "a gap and more", r, x.want)
	}
}

// P14.4: a stripe is used if its generation is greater than 1, whatever it contains.
func TestOpenGenerations(t *testing.T) {
	c := config(2, 3, 2, 1)
	for _, gen := range []int{1, 2, 3, 4, 255, 256, 1 << 32, api.MaxSeq - 1, api.MaxSeq} {
		for _, l := range [][][]byte{nil, texts("a"), texts("a", "bc"), {some(214, 1)}} {
			r := made(t, c)
			puts(t, r, c, 0, gen, l)
			if gen == 1 {
				opens(t, "generation 1", r)
				puts(t, r, c, 1, 2, l)
				openRefused(t, "generation 1 and a gap", r, api.Loss{Group: 1, Have: 0, Need: 1})
				continue
			}
			opens(t, named("generation", gen), r, l)
			puts(t, r, c, 1, gen, nil)
			opens(t, named("generation", gen), r, l, nil)
		}
	}
}

// P14.3, P14.4: used stripes that no Append wrote, also such without entries
func TestOpenOfOtherBlocks(t *testing.T) {
	c := config(2, 3, 4, 2)
	r := made(t, c)
	want := [][][]byte{nil, {{9}}, nil, {some(100, 7), some(112, 8)}}
	for s, l := range [][]api.Block{
		inBlocks(2, 0, 0, 1, 0, 9),
		inBlocks(2, 1, 0, 9, 255, 255, 1),
		inBlocks(2, 215, 0, 9),
		filled(2, want[3]),
	} {
		done(t, "Put", stripe.Put(r, c, s, 5+s, l))
		opens(t, "other blocks", r, want[:s+1]...)
	}
}

// P14.4: what a commit left in the journal alone makes its stripe used, or makes a gap.
func TestOpenReplays(t *testing.T) {
	c := config(2, 3, 4, 2)
	for many := range 4 {
		for s := range 4 {
			r, _, l := several(t, c, many)
			entries := texts("only", "in the journal")
			done(t, "Log", journal.Log(r, c, api.Rec{Seq: many + 2, Stripe: s, Blocks: filled(2, entries)}))
			if s > many {
				openRefused(t, "a gap", r, api.Loss{Group: s, Have: 0, Need: 1})
				if gen, _ := stripe.Look(r, c, s); gen != many+2 {
					t.Errorf("the record is not in its stripe, which has generation %d", gen)
				}
				continue
			}
			l = append(slices.Clone(l[:s]), append([][][]byte{entries}, l[min(s+1, many):]...)...)
			opens(t, "replayed", r, l...)
			r.Boot()
			opens(t, "replayed and booted", r, l...)
		}
	}
}

// P14.4: once the gap is filled, Open tells what stands behind it too.
func TestOpenBehindAGap(t *testing.T) {
	c := config(2, 3, 3, 1)
	r, x := started(t, c)
	done(t, "Commit", x.Volume().Commit(2, filled(2, texts("c"))))
	openRefused(t, "two gaps", r, api.Loss{Group: 2, Have: 0, Need: 1})
	appends(t, "the first", x, 0, texts("a"))
	openRefused(t, "a gap", r, api.Loss{Group: 2, Have: 0, Need: 1})
	appends(t, "the second", x, 1, texts("b"))
	opens(t, "no gap", r, texts("a"), texts("b"), texts("c"))
	appends(t, "over the third", x, 2, texts("d"))
	opens(t, "no gap", r, texts("a"), texts("b"), texts("d"))
}

// P14.4: Open tells the same with any N - K disks dead, replaced, or with rot in all their sectors.
func TestOpenWithoutSomeDisks(t *testing.T) {
	for _, c := range []api.Config{plain(), config(1, 3, 2, 1), config(2, 3, 3, 2), config(3, 4, 2, 4), config(2, 4, 2, 2)} {
		for _, gone := range setsOf(c.N, c.N-c.K) {
			for way := range 3 {
				r, x, l := several(t, c, 2)
				for _, d := range gone {
					fail(t, r, d, way)
				}
				has(t, "gone", x, l...)
				y := opens(t, named("gone", gone...), r, l...)
				if c.Stripes > 2 {
					appends(t, "gone", y, 2, texts("more"))
					l = append(l, texts("more"))
				} else {
					appendRefused(t, "gone", y, texts("more"), api.ErrFull)
				}
				r.Boot()
				opens(t, named("gone and booted", gone...), r, l...)
			}
		}
	}
}

// fail lets a disk die, be replaced, or rot in all its sectors.
func fail(t *testing.T, r *rack.Rack, d, way int) {
	t.Helper()
	switch way {
	case 0:
		r.Die(d)
	case 1:
		r.Replace(d)
	default:
		for sector := range r.Sectors() {
			r.Rot(d, sector, (31*d+sector)%125, 1<<(d+sector)%32|1)
		}
	}
}

// P14.4: what Open tells is new memory, and no two lists of it share any.
func TestOpenIsNewMemory(t *testing.T) {
	c := config(2, 3, 3, 2)
	r, _ := started(t, c)
	want := [][][]byte{{some(3, 1), some(50, 2)}, {some(9, 3), some(2, 4), some(100, 5)}, {some(200, 6)}}
	for s, l := range want {
		puts(t, r, c, s, 3, l)
	}
	x, got, err := Open(r)
	done(t, "Open", err)
	_, other, err := Open(r)
	done(t, "Open", err)
	var flat, flatWant [][]byte
	for s := range got {
		flat = append(flat, got[s]...)
		flatWant = append(flatWant, want[s]...)
	}
	apart(t, "Open", flat, flatWant)
	for s := range got {
		clear(got[s][:cap(got[s])])
		for behind := s + 1; behind < 3; behind++ {
			if len(got[behind]) != len(want[behind]) || got[behind][0] == nil {
				t.Errorf("the lists of stripes %d and %d share memory", s, behind)
			}
		}
	}
	clear(got[:cap(got)])
	if !slices.EqualFunc(other, want, alike) {
		t.Errorf("two Opens share memory: %q", other)
	}
	has(t, "what Open told is spoiled", x, want...)
	opens(t, "what Open told is spoiled", r, want...)
	appendRefused(t, "what Open told is spoiled", x, texts("a"), api.ErrFull)
}

// P14.4: two tapes on one rack are two: each has what it was opened with.
func TestTwoTapes(t *testing.T) {
	c := config(2, 3, 4, 2)
	r, x, l := several(t, c, 1)
	y := opens(t, "the other", r, l...)
	appends(t, "the first", x, 1, texts("first"))
	uses(t, "the other", y, 1)
	getRefused(t, "the other", y, 1, 0, api.ErrNone)
	has(t, "the first", x, l[0], texts("first"))
	y.Volume().Fail()
	has(t, "the other is Down", x, l[0], texts("first"))
	getRefused(t, "the other", y, 0, 0, inRead(0, api.ErrDown))
	uses(t, "the first", x, 2)
	uses(t, "the other", y, 1)
}
