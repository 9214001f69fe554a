package journal

import (
	"bytes"
	"errors"
	"math"
	"slices"
	"testing"

	"stave/api"
	"stave/fault"
	"stave/rack"
)

// all is what Boot takes to let all that waits on a disk be stored.
const all = math.MaxUint64

// plain tells a configuration of which each field has a value of its own. Its slots are at sectors 1 to 3 and 4 to 6,
// and it takes up 12.
func plain() api.Config { return api.Config{Id: 77, K: 3, N: 4, Stripes: 5, Slots: 2} }

// config tells one for n disks with k blocks a stripe.
func config(k, n, stripes, slots int) api.Config {
	return api.Config{Id: 9, K: k, N: n, Stripes: stripes, Slots: slots}
}

// configs tells one for each number of slots with each number of disks, and with several k for it.
func configs() (l []api.Config) {
	for n := 1; n <= api.MaxN; n++ {
		for k := 1; k <= n; k++ {
			for slots := 1; slots <= api.MaxSlots; slots++ {
				if n < 4 || k == 1 || k == n || k == n/2 {
					l = append(l, config(k, n, 1+(k+slots)%5, slots))
				}
			}
		}
	}
	return l
}

// blocks tells k blocks with bytes of all kinds; the salt makes others of them.
func blocks(k, salt int) []api.Block {
	l := make([]api.Block, k)
	for i := range l {
		for at := range l[i] {
			l[i][at] = byte(at*at*salt + 31*at + 101*salt + 57*i + at/7)
		}
	}
	return l
}

// rec tells a record of k blocks; another Seq or stripe has other blocks.
func rec(k, seq, stripe int) api.Rec {
	return api.Rec{Seq: seq, Stripe: stripe, Blocks: blocks(k, seq%1000+7*stripe)}
}

// unused tells the record of a slot that is blank.
func unused(k int) api.Rec { return api.Rec{Blocks: make([]api.Block, k)} }

// frameOf tells frame i of a record as P10.1 says it.
func frameOf(x api.Rec, i int) api.Frame {
	return api.Frame{Kind: 2, Slot: i, Stripe: x.Stripe, Gen: x.Seq, Data: x.Blocks[i]}
}

// placeOf tells the sector of frame i of a slot, counted from the first one behind the superblock.
func placeOf(c api.Config, slot, i int) int {
	place := 1
	for range slot {
		place += c.K
	}
	return place + i
}

// summed tells a copy of b with its CRC-32C checksum behind it, which it computes bit by bit.
func summed(b []byte) []byte {
	sum := uint32(0xFFFFFFFF)
	for _, next := range b {
		sum ^= uint32(next)
		for range 8 {
			out := sum % 2
			sum /= 2
			sum ^= out * 0x82F63B78
		}
	}
	sum = ^sum
	return append(slices.Clone(b), byte(sum), byte(sum>>8), byte(sum>>16), byte(sum>>24))
}

// bytesOf tells the bytes of a frame, as the chapter on frames says them.
func bytesOf(f api.Frame) []byte {
	s, g := f.Stripe, f.Gen
	head := []byte{
		0x53, 0x54, byte(f.Kind), byte(f.Slot),
		byte(s), byte(s >> 8), byte(s >> 16), byte(s >> 24),
		byte(g), byte(g >> 8), byte(g >> 16), byte(g >> 24), byte(g >> 32), byte(g >> 40), byte(g >> 48), byte(g >> 56),
	}
	return summed(append(head, f.Data[:]...))
}

// other tells bytes of a sector that are no frame.
func other(salt int) []byte {
	b := make([]byte, api.Sector)
	for i := range b {
		b[i] = byte(salt + i*i + 3*i)
	}
	return b
}

// made wants a rack for a configuration, with sectors beyond those that it takes up.
func made(t *testing.T, c api.Config, more int) *rack.Rack {
	t.Helper()
	r, err := rack.New(c.N, 1+c.Slots*c.K+c.Stripes+more)
	if err != nil {
		t.Fatalf("New for %v is %#v", c, err)
	}
	return r
}

// blank wants a rack of which all slots are blank.
func blank(t *testing.T, c api.Config) *rack.Rack {
	t.Helper()
	r := made(t, c, 0)
	for slot := range c.Slots {
		done(t, "Blank", Blank(r, c, slot))
	}
	return r
}

// full wants a rack with other bytes at all sectors.
func full(t *testing.T, c api.Config, more int) *rack.Rack {
	t.Helper()
	r := made(t, c, more)
	for d := range c.N {
		for sector := range r.Sectors() {
			done(t, "Write", r.Write(d, sector, other(7*d+sector)))
		}
		done(t, "Flush", r.Flush(d))
	}
	return r
}

// done wants no error.
func done(t *testing.T, name string, err error) {
	t.Helper()
	if err != nil {
		t.Fatalf("%s: %#v", name, err)
	}
}

// lay stores a frame at place i of a slot of disk d.
func lay(t *testing.T, r *rack.Rack, c api.Config, d, slot, i int, f api.Frame) {
	t.Helper()
	done(t, "Write", r.Write(d, placeOf(c, slot, i), bytesOf(f)))
	done(t, "Flush", r.Flush(d))
}

// wipe stores bytes 0 at place i of a slot of these disks.
func wipe(t *testing.T, r *rack.Rack, c api.Config, slot, i int, disks ...int) {
	t.Helper()
	for _, d := range disks {
		done(t, "Write", r.Write(d, placeOf(c, slot, i), make([]byte, api.Sector)))
		done(t, "Flush", r.Flush(d))
	}
}

// alike tells whether two records are.
func alike(x, y api.Rec) bool {
	return x.Seq == y.Seq && x.Stripe == y.Stripe && slices.Equal(x.Blocks, y.Blocks)
}

// tells wants Slot to tell a whole record.
func tells(t *testing.T, name string, r *rack.Rack, c api.Config, slot int, want api.Rec) {
	t.Helper()
	x, whole, newest, err := Slot(r, c, slot)
	if !alike(x, want) || !whole || newest != want.Seq || err != nil {
		t.Errorf("%s: Slot(%d) is Seq %d, Stripe %d, %d blocks, %v, %d, %#v, want Seq %d, Stripe %d",
			name, slot, x.Seq, x.Stripe, len(x.Blocks), whole, newest, err, want.Seq, want.Stripe)
	}
}

// tellsPart wants Slot to tell that the newest record is not whole.
func tellsPart(t *testing.T, name string, r *rack.Rack, c api.Config, slot, want int) {
	t.Helper()
	x, whole, newest, err := Slot(r, c, slot)
	if !alike(x, api.Rec{}) || whole || newest != want || err != nil {
		t.Errorf("%s: Slot(%d) is Seq %d, Stripe %d, %d blocks, %v, %d, %#v, want none of %d",
			name, slot, x.Seq, x.Stripe, len(x.Blocks), whole, newest, err, want)
	}
}

// tellsLoss wants Slot to tell that the slot is lost: one layer around a Loss that errors.As finds.
func tellsLoss(t *testing.T, name string, r *rack.Rack, c api.Config, slot int) {
	t.Helper()
	x, whole, newest, err := Slot(r, c, slot)
	if !alike(x, api.Rec{}) || whole || newest != 0 {
		t.Errorf("%s: Slot(%d) is %v, %v, %d, %#v", name, slot, x, whole, newest, err)
	}
	refused(t, name, err, at("journal.Slot", slot, api.Loss{Group: slot, Have: 0, Need: 1}))
	var loss api.Loss
	if !errors.As(err, &loss) || loss != (api.Loss{Group: slot, Have: 0, Need: 1}) || !errors.Is(err, api.ErrLost) {
		t.Errorf("%s: Slot(%d) has the error %#v", name, slot, err)
	}
	if got, lost := fault.Lost(err); !lost || got != loss {
		t.Errorf("%s: Slot(%d) has the Loss %v, %v", name, slot, got, lost)
	}
}

// slotRefused wants Slot to be refused as one that can't be.
func slotRefused(t *testing.T, name string, r *rack.Rack, c api.Config, slot int) {
	t.Helper()
	x, whole, newest, err := Slot(r, c, slot)
	if !alike(x, api.Rec{}) || whole || newest != 0 {
		t.Errorf("%s: Slot(%d) is %v, %v, %d, %#v", name, slot, x, whole, newest, err)
	}
	refused(t, name, err, at("journal.Slot", slot, api.ErrArg))
}

// at tells one layer of an error.
func at(op string, n int, err error) error { return api.Fault{Op: op, At: n, Err: err} }

// same tells whether two errors are alike, layer by layer.
func same(err, want error) bool {
	var f, g api.Fault
	for errors.As(err, &f) && errors.As(want, &g) {
		if f.Op != g.Op || f.At != g.At {
			return false
		}
		err, want = f.Err, g.Err
	}
	return err == want
}

// refused wants this error, with all its layers, and its kind through all of them.
func refused(t *testing.T, name string, err, want error) {
	t.Helper()
	if !same(err, want) {
		t.Errorf("%s: refused with %#v, want %#v", name, err, want)
	}
	if kind := fault.Kind(want); kind == 0 || fault.Kind(err) != kind || !errors.Is(err, kind) {
		t.Errorf("%s: refused with %#v, which is no %d", name, err, kind)
	}
}

// sees tells what all sectors of each disk read as; those of a dead one as nothing.
func sees(r *rack.Rack) (l [][][]byte) {
	for d := range r.N() {
		var disk [][]byte
		for sector := range r.Sectors() {
			b, _ := r.Read(d, sector)
			disk = append(disk, b)
		}
		l = append(l, disk)
	}
	return l
}

// reads wants all sectors to read so.
func reads(t *testing.T, name string, r *rack.Rack, want [][][]byte) {
	t.Helper()
	for d, disk := range sees(r) {
		for sector, b := range disk {
			if !bytes.Equal(b, want[d][sector]) {
				t.Fatalf("%s: sector %d of disk %d is % x, want % x", name, sector, d, b, want[d][sector])
			}
		}
	}
}

// remain wants just n operations to remain, which it uses up on disk d, which must be up.
func remain(t *testing.T, name string, r *rack.Rack, d, n int) {
	t.Helper()
	for range n {
		done(t, name+": an operation that remains", r.Flush(d))
	}
	if r.Off() {
		t.Errorf("%s: the power is off", name)
	}
	if err := r.Flush(d); fault.Kind(err) != api.ErrDown || !r.Off() {
		t.Errorf("%s: operations remain beyond %d: %#v", name, n, err)
	}
}

// storing is a call that stores a record in a slot: a Log, or a Blank of the record with Seq 0.
type storing struct {
	op   string
	at   int
	slot int
	rec  api.Rec
	call func(r *rack.Rack) error
}

func logging(c api.Config, x api.Rec) storing {
	return storing{"journal.Log", x.Seq, x.Seq % c.Slots, x, func(r *rack.Rack) error { return Log(r, c, x) }}
}

func blanking(c api.Config, slot int) storing {
	return storing{"journal.Blank", slot, slot, unused(c.K), func(r *rack.Rack) error { return Blank(r, c, slot) }}
}

// storings tells a Log and a Blank for each slot, Logs with great numbers among them.
func storings(c api.Config) (l []storing) {
	for slot := range c.Slots {
		l = append(l, blanking(c, slot), logging(c, rec(c.K, 2+slot, slot%c.Stripes)))
	}
	for back := range c.Slots {
		l = append(l, logging(c, rec(c.K, 1<<60-back, c.Stripes-1)), logging(c, rec(c.K, 0x0102030405060708-back, 0)))
	}
	return l
}

// operation is a write of b at a sector of a disk, or a flush of the disk.
type operation struct {
	disk, sector int
	b            []byte
	flush        bool
}

// error tells the one that the operation has if the power is off.
func (o operation) error() error {
	if o.flush {
		return at("rack.Flush", o.disk, api.ErrDown)
	}
	return at("rack.Write", o.disk, api.ErrDown)
}

// operations tells those of a call in order, if these disks are online.
func (s storing) operations(c api.Config, online []int) (l []operation) {
	for _, d := range online {
		for i := range c.K {
			l = append(l, operation{disk: d, sector: placeOf(c, s.slot, i), b: bytesOf(frameOf(s.rec, i))})
		}
	}
	for _, d := range online {
		l = append(l, operation{disk: d, flush: true})
	}
	return l
}

// P10.1, P10.2: a record's frames, written out
func TestLogWrittenOut(t *testing.T) {
	c := config(2, 3, 50, 3)
	x := api.Rec{Seq: 0x0102030405060709, Stripe: 49, Blocks: blocks(2, 5)}
	r := made(t, c, 0)
	done(t, "Log", Log(r, c, x))
	want := sees(made(t, c, 0))
	for d := range 3 {
		for i := range 2 {
			// 0x0102030405060709 leaves 1 if it is divided by 3, and slot 1 is at sectors 3 and 4.
			want[d][3+i] = summed(slices.Concat(
				[]byte{0x53, 0x54},
				[]byte{2},                      // Kind
				[]byte{byte(i)},                // Slot
				[]byte{49, 0, 0, 0},            // Stripe
				[]byte{9, 7, 6, 5, 4, 3, 2, 1}, // Gen
				x.Blocks[i][:],
			))
		}
	}
	reads(t, "Log", r, want)
	r.Boot()
	reads(t, "Log and booted", r, want)
	f, ok := r.Get(2, 4, api.KJournal, 1, 49)
	if !ok || f != (api.Frame{Kind: 2, Slot: 1, Stripe: 49, Gen: 0x0102030405060709, Data: x.Blocks[1]}) {
		t.Errorf("the frame is %v, %v", f, ok)
	}
}

// P10.1, P10.3: the frames of a blank slot, written out
func TestBlankWrittenOut(t *testing.T) {
	c := config(2, 3, 5, 3)
	r := full(t, c, 1)
	want := sees(r)
	done(t, "Blank", Blank(r, c, 2))
	for d := range 3 {
		for i := range 2 {
			head := []byte{0x53, 0x54, 2, byte(i), 0, 0, 0, 0, 0, 0, 0, 0, 0, 0, 0, 0}
			want[d][5+i] = summed(append(head, make([]byte, 108)...))
		}
	}
	reads(t, "Blank", r, want)
	r.Boot()
	reads(t, "Blank and booted", r, want)
}

// P10.1: the sectors of each slot, written out
func TestPlaces(t *testing.T) {
	for _, p := range []struct {
		c     api.Config
		first []int
	}{
		{config(1, 1, 1, 1), []int{1}},
		{config(1, 2, 1, 4), []int{1, 2, 3, 4}},
		{config(2, 3, 4, 2), []int{1, 3}},
		{config(3, 3, 4, 2), []int{1, 4}},
		{config(3, 5, 4, 4), []int{1, 4, 7, 10}},
		{config(5, 8, 4, 3), []int{1, 6, 11}},
		{config(8, 8, 4, 1), []int{1}},
		{config(8, 8, 64, 4), []int{1, 9, 17, 25}},
	} {
		for slot, first := range p.first {
			for _, s := range []storing{blanking(p.c, slot), logging(p.c, rec(p.c.K, slot+4*len(p.first), 0))} {
				r := full(t, p.c, 2)
				want := sees(r)
				done(t, s.op, s.call(r))
				for d := range p.c.N {
					for i := range p.c.K {
						want[d][first+i] = bytesOf(frameOf(s.rec, i))
					}
				}
				reads(t, s.op, r, want)
			}
		}
	}
}

// P10.2: the slot of a record is its Seq mod Slots.
func TestSlotOfSeq(t *testing.T) {
	for slots := 1; slots <= api.MaxSlots; slots++ {
		c := config(2, 2, 3, slots)
		slot := 2 % slots
		for seq := 2; seq < 30; seq++ {
			r := blank(t, c)
			done(t, "Log", Log(r, c, rec(2, seq, seq%3)))
			for s := range slots {
				if s == slot {
					tells(t, "its slot", r, c, s, rec(2, seq, seq%3))
				} else {
					tells(t, "another slot", r, c, s, unused(2))
				}
			}
			slot = (slot + 1) % slots
		}
	}
	// 2^60 leaves 0, 0, 1 and 0 if it is divided by 1, 2, 3 and 4.
	for slots, slot := range []int{0, 0, 0, 1, 0} {
		if slots > 0 {
			c := config(1, 2, 3, slots)
			r := blank(t, c)
			done(t, "Log", Log(r, c, rec(1, 1<<60, 2)))
			tells(t, "the greatest Seq", r, c, slot, rec(1, 1<<60, 2))
		}
	}
}

// P10.2, P10.3: each disk that is online has the frames, flushed, and no other sector has changed, for each K, each
// number of disks and of slots
func TestStoring(t *testing.T) {
	for _, c := range configs() {
		r := full(t, c, 1)
		want := sees(r)
		for _, s := range storings(c) {
			done(t, s.op, s.call(r))
			r.Boot()
			for d := range c.N {
				for i := range c.K {
					want[d][placeOf(c, s.slot, i)] = bytesOf(frameOf(s.rec, i))
				}
			}
			reads(t, s.op, r, want)
			tells(t, s.op, r, c, s.slot, s.rec)
		}
	}
}

// P10.2, P10.3: every set of dead disks; what is not online is left out, and is no error.
func TestStoringOnline(t *testing.T) {
	c := plain()
	for set := range 1 << c.N {
		for _, s := range storings(c) {
			r := full(t, c, 0)
			var online []int
			for d := range c.N {
				if set>>d%2 == 1 {
					r.Die(d)
				} else {
					online = append(online, d)
				}
			}
			want := sees(r)
			done(t, s.op, s.call(r))
			for _, d := range online {
				for i := range c.K {
					want[d][placeOf(c, s.slot, i)] = bytesOf(frameOf(s.rec, i))
				}
			}
			reads(t, s.op, r, want)
			r.Boot()
			reads(t, s.op+" and booted", r, want)
			for d := range c.N {
				if set>>d%2 == 1 {
					r.Replace(d)
					want[d] = sees(made(t, c, 0))[d]
				}
			}
			reads(t, s.op+" and replaced", r, want)
		}
	}
}

// P10.2: a disk that is replaced is online and has the next record.
func TestStoringReplaced(t *testing.T) {
	c := plain()
	for _, s := range storings(c) {
		r := blank(t, c)
		r.Die(1)
		r.Replace(1)
		r.Replace(2)
		done(t, s.op, s.call(r))
		r.Boot()
		for _, d := range []int{0, 1, 2, 3} {
			for i := range c.K {
				if f, ok := r.Get(d, placeOf(c, s.slot, i), 2, i, s.rec.Stripe); !ok || f != frameOf(s.rec, i) {
					t.Errorf("%s: frame %d of disk %d is %v, %v", s.op, i, d, f, ok)
				}
			}
		}
	}
}

// P10.2, P10.3: all that waits on a disk that is online is flushed.
func TestStoringFlushes(t *testing.T) {
	c := plain()
	for _, s := range storings(c) {
		r := made(t, c, 3)
		for d := range c.N {
			for sector := range r.Sectors() {
				done(t, "Write", r.Write(d, sector, other(d+sector)))
			}
		}
		r.Die(2)
		done(t, s.op, s.call(r))
		want := sees(r)
		if !bytes.Equal(want[3][0], other(3)) || !bytes.Equal(want[0][14], other(14)) {
			t.Fatalf("%s: what waited is not read", s.op)
		}
		r.Boot()
		reads(t, s.op, r, want)
	}
}

// deaths tells sets of disks that are dead, some of which leave none online.
func deaths(n int) [][]int {
	l := [][]int{nil, {0}, {n - 1}}
	if n > 2 {
		l = append(l, []int{1}, []int{0, n - 1})
	}
	return l
}

// P10.2, P10.3: the order of the operations, and the error at each of them, by a power failure at each
func TestOrder(t *testing.T) {
	for _, c := range []api.Config{plain(), config(1, 1, 1, 1), config(1, 3, 2, 2), config(2, 2, 2, 3), config(2, 5, 3, 1), config(8, 8, 1, 2)} {
		for _, s := range storings(c) {
			for _, dead := range deaths(c.N) {
				ordered(t, c, s, dead)
			}
		}
	}
}

// ordered wants the operations of a call to be just those of its chapter, in their order: behind each one fewer the
// power fails, and then what has been written and what has been flushed shows which went ahead.
func ordered(t *testing.T, c api.Config, s storing, dead []int) {
	t.Helper()
	online := slices.DeleteFunc([]int{0, 1, 2, 3, 4, 5, 6, 7}[:c.N], func(d int) bool { return slices.Contains(dead, d) })
	l := s.operations(c, online)
	for n := range len(l) + 2 {
		for _, keeps := range []bool{true, false} {
			r := full(t, c, 0)
			for _, d := range dead {
				r.Die(d)
			}
			stored, waiting := sees(r), sees(r)
			for _, o := range l[:min(n, len(l))] {
				if o.flush {
					stored[o.disk] = waiting[o.disk]
				} else {
					waiting[o.disk][o.sector] = o.b
				}
			}
			r.Arm(n)
			err := s.call(r)
			if n < len(l) {
				refused(t, s.op, err, at(s.op, s.at, l[n].error()))
			} else {
				done(t, s.op, err)
			}
			if r.Off() != (n < len(l)) {
				t.Errorf("%s: the power is off: %v", s.op, r.Off())
			}
			if keeps {
				r.Boot(all, all, all, all, all, all, all, all)
				reads(t, s.op+", all kept", r, waiting)
			} else {
				r.Boot()
				reads(t, s.op+", none kept", r, stored)
			}
		}
	}
}

// P10.2, P10.3: a call uses up as many operations as it has, and no more.
func TestOperationsUsedUp(t *testing.T) {
	for _, c := range configs() {
		for _, s := range storings(c)[:2] {
			need := c.N*c.K + c.N
			for more := range 3 {
				r := made(t, c, 0)
				r.Arm(need + more)
				done(t, s.op, s.call(r))
				remain(t, s.op, r, 0, more)
			}
		}
	}
}

// P10.2, P10.3: the power is off from the start.
func TestStoringOff(t *testing.T) {
	c := plain()
	for _, s := range storings(c) {
		for first := range c.N {
			r := full(t, c, 0)
			for d := range first {
				r.Die(d)
			}
			want := sees(r)
			r.Arm(0)
			r.Flush(first)
			refused(t, s.op, s.call(r), at(s.op, s.at, at("rack.Write", first, api.ErrDown)))
			refused(t, s.op+" again", s.call(r), at(s.op, s.at, at("rack.Write", first, api.ErrDown)))
			r.Boot(all, all, all, all)
			reads(t, s.op, r, want)
			done(t, s.op+" and booted", s.call(r))
		}
	}
}

// P10.2, P10.3: no disk is online: there is nothing to write, and no operation that could fail.
func TestStoringNowhere(t *testing.T) {
	c := plain()
	for _, s := range storings(c) {
		r := full(t, c, 0)
		r.Arm(1)
		for d := range c.N {
			r.Die(d)
		}
		done(t, s.op, s.call(r))
		r.Replace(0)
		r.Replace(1)
		reads(t, s.op, r, [][][]byte{sees(made(t, c, 0))[0], sees(made(t, c, 0))[1], sees(r)[2], sees(r)[3]})
		remain(t, s.op, r, 1, 1)
		r.Die(0)
		r.Die(1)
		done(t, s.op+" with the power off", s.call(r))
	}
}

// wrongRecs tells records that can't be logged with the configuration plain, for one reason or for several.
func wrongRecs() (l []api.Rec) {
	seqs := []int{1, 1<<60 + 1, 0, -1, -2, 1<<60 + 2, 1 << 61, 1 << 62, math.MaxInt, math.MinInt, math.MinInt + 2, -1 << 60}
	stripes := []int{-1, 5, 6, -5, 63, 64, 1 << 8, 1 << 32, 1<<32 + 1, math.MaxInt, math.MinInt}
	for _, seq := range seqs {
		l = append(l, rec(3, seq, 2), api.Rec{Seq: seq, Blocks: blocks(2, 1)}, api.Rec{Seq: seq, Stripe: 5, Blocks: blocks(3, 1)}, api.Rec{Seq: seq, Stripe: -1, Blocks: blocks(4, 1)})
	}
	for _, stripe := range stripes {
		l = append(l, rec(3, 2, stripe), rec(3, 1<<60, stripe), rec(3, 1, stripe), rec(2, 7, stripe), rec(4, 7, stripe))
	}
	for _, many := range []int{2, 4, 1, 5, 6, 8, 9, 100} {
		l = append(l, rec(many, 2, 0), rec(many, 1<<60, 4), rec(many, 0, 0))
	}
	return append(l, api.Rec{}, api.Rec{Seq: 2}, api.Rec{Seq: 3, Blocks: []api.Block{}}, api.Rec{Seq: 1 << 60, Stripe: 4, Blocks: []api.Block{}})
}

// unfit tells configurations that don't fit a rack of four disks with 12 sectors.
func unfit() (l []api.Config) {
	for _, change := range []func(c *api.Config){
		func(c *api.Config) { c.N = 3 },
		func(c *api.Config) { c.N = 5 },
		func(c *api.Config) { c.Stripes = 6 },
		func(c *api.Config) { c.Slots = 3 },
		func(c *api.Config) { c.K = 4 },
		func(c *api.Config) { c.Id = 0 },
		func(c *api.Config) { c.Id = 1 << 31 },
		func(c *api.Config) { c.K = 0 },
		func(c *api.Config) { c.K = -1 },
		func(c *api.Config) { c.K, c.Slots = 5, 1 },
		func(c *api.Config) { c.N = 0 },
		func(c *api.Config) { c.N = 9 },
		func(c *api.Config) { c.Stripes = 0 },
		func(c *api.Config) { c.Stripes = -1 },
		func(c *api.Config) { c.Stripes = 65 },
		func(c *api.Config) { c.Slots = 0 },
		func(c *api.Config) { c.Slots = -1 },
		func(c *api.Config) { c.Slots = 5 },
		func(c *api.Config) { c.K, c.Slots = 1, 5 },
		func(c *api.Config) { c.Slots, c.Stripes = math.MaxInt, math.MaxInt },
		func(c *api.Config) { c.Slots, c.K = math.MinInt, math.MinInt },
		func(c *api.Config) { *c = api.Config{} },
	} {
		c := plain()
		change(&c)
		l = append(l, c)
	}
	return l
}

// recFor tells a record that nothing is wrong with but the configuration, as far as its K can be.
func recFor(c api.Config) api.Rec { return rec(min(max(c.K, 0), 9), 2, 0) }

// harmless wants a refused call to change nothing and to use up no operation, and to be refused in the same way with
// the power off and with no disk online.
func harmless(t *testing.T, name string, call func(r *rack.Rack) error, want error) {
	t.Helper()
	r := full(t, plain(), 0)
	done(t, "Write", r.Write(3, 2, other(99)))
	was := sees(r)
	for n := range 3 {
		r.Arm(n)
		refused(t, name, call(r), want)
		reads(t, name, r, was)
		remain(t, name, r, 0, n)
		refused(t, name+" with the power off", call(r), want)
		r.Boot(0, 0, 0, all)
		reads(t, name+" with the power off", r, was)
	}
	for d := range r.N() {
		r.Die(d)
	}
	refused(t, name+" with no disk online", call(r), want)
}

// P10.2: Seq, Stripe and Blocks beyond their edges, one, two and all of them, and configurations that don't fit
func TestLogRefused(t *testing.T) {
	for _, x := range wrongRecs() {
		harmless(t, "Log", func(r *rack.Rack) error { return Log(r, plain(), x) }, at("journal.Log", x.Seq, api.ErrArg))
	}
	for _, c := range unfit() {
		for _, x := range []api.Rec{recFor(c), rec(3, 2, 0), rec(3, 1<<60, 4), rec(3, 1, 0), rec(3, 7, 5), {}, {Seq: -4, Stripe: -1}} {
			harmless(t, "Log", func(r *rack.Rack) error { return Log(r, c, x) }, at("journal.Log", x.Seq, api.ErrArg))
		}
	}
}

// P10.2: Seq and Stripe at their edges
func TestLogAtTheEdges(t *testing.T) {
	for _, c := range configs() {
		for _, seq := range []int{2, 3, 4, 5, 1<<60 - 1, 1 << 60} {
			for _, stripe := range []int{0, c.Stripes - 1} {
				r := blank(t, c)
				done(t, "Log", Log(r, c, rec(c.K, seq, stripe)))
				tells(t, "Log", r, c, seq%c.Slots, rec(c.K, seq, stripe))
			}
			r := blank(t, c)
			x := rec(c.K, seq, c.Stripes)
			refused(t, "Log", Log(r, c, x), at("journal.Log", seq, api.ErrArg))
		}
	}
	c := config(1, 2, 64, 4)
	r := blank(t, c)
	done(t, "Log", Log(r, c, rec(1, 5, 63)))
	tells(t, "the greatest stripe", r, c, 1, rec(1, 5, 63))
	refused(t, "Log", Log(r, c, rec(1, 5, 64)), at("journal.Log", 5, api.ErrArg))
}

// wrongSlots tells numbers that are no slot of a configuration with so many.
func wrongSlots(slots int) []int {
	return []int{-1, slots, slots + 1, -2, -slots, 4, 5, 256, -256, 1 << 32, 1<<32 + 1, -1 << 32, math.MaxInt, math.MinInt, math.MinInt + 1}
}

// P10.3, P10.4: slots that are none, and configurations that don't fit, one of them or both
func TestSlotsRefused(t *testing.T) {
	for _, slot := range wrongSlots(2) {
		harmless(t, "Blank", func(r *rack.Rack) error { return Blank(r, plain(), slot) }, at("journal.Blank", slot, api.ErrArg))
		slotRefused(t, "no such slot", blank(t, plain()), plain(), slot)
	}
	for _, c := range unfit() {
		for _, slot := range append(wrongSlots(2), 0, 1, 2, 3) {
			harmless(t, "Blank", func(r *rack.Rack) error { return Blank(r, c, slot) }, at("journal.Blank", slot, api.ErrArg))
			slotRefused(t, "unfit", blank(t, plain()), c, slot)
		}
	}
	for slots := 1; slots <= api.MaxSlots; slots++ {
		c := config(1, 2, 3, slots)
		r := blank(t, c)
		tells(t, "the first slot", r, c, 0, unused(1))
		tells(t, "the last slot", r, c, slots-1, unused(1))
		slotRefused(t, "one too few", r, c, -1)
		slotRefused(t, "one too many", r, c, slots)
		refused(t, "one too few", Blank(r, c, -1), at("journal.Blank", -1, api.ErrArg))
		refused(t, "one too many", Blank(r, c, slots), at("journal.Blank", slots, api.ErrArg))
	}
}

// P10.4: the errors of what can't be come ahead of what the disks have: dead ones, no power, a lost slot.
func TestSlotRefusedFirst(t *testing.T) {
	bad := plain()
	bad.N = 3
	r := made(t, plain(), 0)
	slotRefused(t, "lost", r, plain(), 2)
	slotRefused(t, "lost", r, bad, 0)
	r.Arm(0)
	r.Flush(0)
	slotRefused(t, "off", r, plain(), -1)
	slotRefused(t, "off", r, bad, 0)
	for d := range 4 {
		r.Die(d)
	}
	slotRefused(t, "dead", r, plain(), 2)
	slotRefused(t, "dead", r, bad, 1)
}

// P10.4: a new rack has no record in any slot.
func TestSlotNew(t *testing.T) {
	for _, c := range configs() {
		r := made(t, c, 1)
		for slot := range c.Slots {
			tellsLoss(t, "new", r, c, slot)
		}
		for slot := range c.Slots {
			done(t, "Blank", Blank(r, c, slot))
			tells(t, "blank", r, c, slot, unused(c.K))
			if slot+1 < c.Slots {
				tellsLoss(t, "not yet blank", r, c, slot+1)
			}
		}
	}
}

// notGood tells frames that are not good at place i of slot 1 of a volume with five stripes and two slots. But for the
// last ones the rack finds them as frames of the journal there.
func notGood(i int) []api.Frame {
	f := api.Frame{Kind: api.KJournal, Slot: i, Stripe: 2, Gen: 9, Data: blocks(1, 77)[0]}
	var l []api.Frame
	for _, stripe := range []int{5, 6, 10, 63} {
		g := f
		g.Stripe = stripe
		l = append(l, g)
		g.Gen = 0
		l = append(l, g)
	}
	for _, gen := range []int{1, 2, 8, 10, 1 << 60, 1<<32 + 2} {
		g := f
		g.Gen = gen
		l = append(l, g)
		g.Stripe = 5
		l = append(l, g)
	}
	for _, change := range []func(g *api.Frame){
		func(g *api.Frame) { g.Kind = api.KStripe },
		func(g *api.Frame) { g.Kind = api.KSuper },
		func(g *api.Frame) { g.Slot = i + 1 },
		func(g *api.Frame) { g.Slot = (i + 2) % 3 },
		func(g *api.Frame) { g.Gen, g.Slot = 0, i+1 },
		func(g *api.Frame) { g.Gen, g.Kind = 0, api.KStripe },
	} {
		g := f
		change(&g)
		l = append(l, g)
	}
	return l
}

// P10.4: frames that are not good count for nothing, on whichever disk they stand: neither as the newest, nor as a
// record's, nor as one that the slot still has.
func TestNotGood(t *testing.T) {
	c := plain()
	for i := range c.K {
		for _, f := range notGood(i) {
			for d := range c.N {
				r := blank(t, c)
				x := rec(3, 3, 2)
				done(t, "Log", Log(r, c, x))
				lay(t, r, c, d, 1, i, f)
				tells(t, "one is not good", r, c, 1, x)
				for e := range c.N {
					lay(t, r, c, e, 1, i, f)
				}
				tellsLoss(t, "none is good", r, c, 1)
				lay(t, r, c, d, 1, i, frameOf(x, i))
				tells(t, "one is good", r, c, 1, x)
			}
		}
	}
}

// P10.4: frames that are good: each Gen and each stripe that may be
func TestGood(t *testing.T) {
	for slots := 1; slots <= api.MaxSlots; slots++ {
		c := config(2, 2, 5, slots)
		for slot := range slots {
			for _, gen := range []int{0, 1, 2, 3, 4, 5, 6, 7, 8, 9, 12, 13, 1 << 31, 1<<31 + 1, 1 << 32, 1<<32 + 3, 1<<60 - 3, 1<<60 - 2, 1<<60 - 1, 1 << 60} {
				for _, stripe := range []int{0, 1, 4, 5, 63} {
					r := made(t, c, 0)
					x := api.Rec{Seq: gen, Stripe: stripe, Blocks: blocks(2, gen%50)}
					lay(t, r, c, 0, slot, 0, frameOf(x, 0))
					lay(t, r, c, 1, slot, 1, frameOf(x, 1))
					if stripe < 5 && (gen == 0 || gen != 1 && gen%slots == slot) {
						tells(t, "good", r, c, slot, x)
					} else {
						tellsLoss(t, "not good", r, c, slot)
					}
				}
			}
		}
	}
}

// P10.4: Gen 0 in each slot, also with a stripe and with bytes that Blank doesn't write
func TestGenZero(t *testing.T) {
	for slots := 1; slots <= api.MaxSlots; slots++ {
		c := config(2, 3, 4, slots)
		for slot := range slots {
			r := made(t, c, 0)
			done(t, "Blank", Blank(r, c, slot))
			tells(t, "blank", r, c, slot, unused(2))
			x := api.Rec{Seq: 0, Stripe: 3, Blocks: blocks(2, 8)}
			lay(t, r, c, 0, slot, 1, frameOf(x, 1))
			tells(t, "another stripe at the second place", r, c, slot, unused(2))
			lay(t, r, c, 0, slot, 0, frameOf(x, 0))
			tells(t, "another stripe at both", r, c, slot, x)
			wipe(t, r, c, slot, 1, 0)
			tellsPart(t, "another stripe at the first place alone", r, c, slot, 0)
			y := rec(2, slot+4*slots, 1)
			done(t, "Log", Log(r, c, y))
			lay(t, r, c, 0, slot, 0, frameOf(x, 0))
			tells(t, "a newer record", r, c, slot, y)
		}
	}
}

// P10.4: a place of which no disk has a good frame, whatever the other places have
func TestLostPlace(t *testing.T) {
	c := plain()
	for _, s := range storings(c) {
		for i := range c.K {
			r := blank(t, c)
			done(t, s.op, s.call(r))
			for d := range c.N {
				tells(t, "some disk has it", r, c, s.slot, s.rec)
				r.Rot(d, placeOf(c, s.slot, i), 20+i+d, uint32(1+d))
			}
			tellsLoss(t, "no disk has it", r, c, s.slot)
			tells(t, "the other slot", r, c, 1-s.slot, unused(3))
			lay(t, r, c, 2, s.slot, i, frameOf(s.rec, i))
			tells(t, "a disk has it again", r, c, s.slot, s.rec)
			wipe(t, r, c, s.slot, i, 2)
			tellsLoss(t, "and no more", r, c, s.slot)
			done(t, s.op, s.call(r))
			tells(t, "stored again", r, c, s.slot, s.rec)
		}
	}
}

// P10.4: every set of good frames of one record on three disks: it is whole if each place has one on some disk.
func TestEverySetOfFrames(t *testing.T) {
	c := config(3, 3, 4, 2)
	x := rec(3, 5, 3)
	for set := range 1 << 9 {
		r := made(t, c, 0)
		has := [3]bool{}
		for at := range 9 {
			if set>>at%2 == 1 {
				lay(t, r, c, at/3, 1, at%3, frameOf(x, at%3))
				has[at%3] = true
			}
		}
		if has[0] && has[1] && has[2] {
			tells(t, "each place on some disk", r, c, 1, x)
		} else {
			tellsLoss(t, "a place on no disk", r, c, 1)
		}
	}
}

// P10.4: each place is good on another disk alone, and no disk has all.
func TestSpread(t *testing.T) {
	c := plain()
	x := rec(3, 9, 4)
	for a := range 4 {
		for b := range 4 {
			for d := range 4 {
				r := blank(t, c)
				lay(t, r, c, a, 1, 0, frameOf(x, 0))
				lay(t, r, c, b, 1, 1, frameOf(x, 1))
				lay(t, r, c, d, 1, 2, frameOf(x, 2))
				tells(t, "spread", r, c, 1, x)
				wipe(t, r, c, 1, 1, 0, 1, 2, 3)
				tellsLoss(t, "a place is gone", r, c, 1)
			}
		}
	}
}

// P10.4: the newest Gen is there at some of the places alone: it is told, the record is not, nor is the older one, which
// is whole.
func TestNewestInPart(t *testing.T) {
	c := plain()
	old := rec(3, 5, 1)
	for set := 1; set < 8; set++ {
		for _, seq := range []int{7, 9, 1<<60 - 1} {
			for d := range c.N {
				r := blank(t, c)
				done(t, "Log", Log(r, c, old))
				x := rec(3, seq, 1)
				for i := range 3 {
					if set>>i%2 == 1 {
						lay(t, r, c, (d+i)%4, 1, i, frameOf(x, i))
					}
				}
				if set == 7 {
					tells(t, "at all places", r, c, 1, x)
				} else {
					tellsPart(t, "at some places", r, c, 1, seq)
				}
			}
		}
	}
}

// P10.4: frames that are older, each on another disk, don't complete the newest, and are not told.
func TestOlderFrames(t *testing.T) {
	c := config(2, 4, 3, 1)
	for _, order := range [][]int{{2, 3, 4, 5}, {5, 4, 3, 2}, {3, 5, 2, 4}, {4, 2, 5, 3}, {0, 5, 0, 2}} {
		r := made(t, c, 0)
		for d, seq := range order {
			for i := range 2 {
				lay(t, r, c, d, 0, i, frameOf(rec(2, seq, seq%3), i))
			}
		}
		tells(t, "the newest", r, c, 0, rec(2, 5, 2))
		at := slices.Index(order, 5)
		wipe(t, r, c, 0, 1, at)
		tellsPart(t, "half of the newest", r, c, 0, 5)
		lay(t, r, c, at, 0, 1, frameOf(rec(2, 5, 2), 1))
		wipe(t, r, c, 0, 0, at)
		tellsPart(t, "the other half of the newest", r, c, 0, 5)
	}
}

// P10.4: frames of the newest Gen with unlike stripes: the first one of the first place says which counts.
func TestUnlikeStripes(t *testing.T) {
	c := plain()
	a, b := rec(3, 9, 1), rec(3, 9, 3)
	stands := func(name string, r *rack.Rack, laid [3][4]*api.Rec) {
		t.Helper()
		for i := range 3 {
			for d := range 4 {
				if x := laid[i][d]; x != nil {
					lay(t, r, c, d, 1, i, frameOf(*x, i))
				}
			}
		}
	}
	for _, s := range []struct {
		name string
		laid [3][4]*api.Rec
		want *api.Rec
	}{
		{"a and b, a first", [3][4]*api.Rec{{&a, &b}, {&a, &b}, {&a, &b}}, &a},
		{"a and b, b first", [3][4]*api.Rec{{&b, &a}, {&b, &a}, {&b, &a}}, &b},
		{"a first at the first place, b at the others", [3][4]*api.Rec{{&a, &b}, {&b, &a}, {&b, &a}}, &a},
		{"b first at the first place, a at the others", [3][4]*api.Rec{{&b, &a}, {&a, &b}, {&a, &b}}, &b},
		{"a at the first place, b at the others", [3][4]*api.Rec{{&a}, {&b}, {&b}}, nil},
		{"a at the first place, b at the second", [3][4]*api.Rec{{&a}, {&b}, {&a}}, nil},
		{"a at the first place, b at the third", [3][4]*api.Rec{{&a}, {&a}, {&b}}, nil},
		{"a first at the first place, b whole", [3][4]*api.Rec{{&a, &b}, {nil, &b}, {nil, &b}}, nil},
		{"b behind at the first place, b whole", [3][4]*api.Rec{{nil, &b, &a}, {nil, &b}, {nil, &b}}, &b},
		{"a whole, b behind", [3][4]*api.Rec{{&a, nil, &b}, {nil, &a, &b}, {nil, nil, &b, &a}}, &a},
		{"a before b at the first two places, b at the third", [3][4]*api.Rec{{nil, nil, &a, &b}, {nil, nil, &a, &b}, {nil, nil, nil, &b}}, nil},
	} {
		r := blank(t, c)
		stands(s.name, r, s.laid)
		if s.want == nil {
			tellsPart(t, s.name, r, c, 1, 9)
		} else {
			tells(t, s.name, r, c, 1, *s.want)
		}
		// Over a whole older record, the frames of which complete nothing.
		r = blank(t, c)
		done(t, "Log", Log(r, c, rec(3, 7, 1)))
		stands(s.name, r, s.laid)
		if s.want == nil {
			tellsPart(t, s.name+" over an older one", r, c, 1, 9)
		} else {
			tells(t, s.name+" over an older one", r, c, 1, *s.want)
		}
	}
}

// P10.4: of several frames of the newest Gen and the stripe, those of the first disk are told.
func TestFirstFrame(t *testing.T) {
	c := config(2, 3, 4, 2)
	variant := func(salt int) api.Rec { return api.Rec{Seq: 7, Stripe: 2, Blocks: blocks(2, salt)} }
	for _, order := range [][]int{{1, 2, 3}, {3, 2, 1}, {2, 3, 1}} {
		r := blank(t, c)
		for d, salt := range order {
			for i := range 2 {
				lay(t, r, c, d, 1, i, frameOf(variant(salt), i))
			}
		}
		want := variant(order[0])
		tells(t, "the first disk", r, c, 1, want)
		wipe(t, r, c, 1, 1, 0)
		want.Blocks[1] = variant(order[1]).Blocks[1]
		tells(t, "the second place of the second disk", r, c, 1, want)
		r.Die(0)
		tells(t, "the second disk", r, c, 1, variant(order[1]))
		r.Die(1)
		tells(t, "the third disk", r, c, 1, variant(order[2]))
	}
}

// P10.4: dead disks, new ones, rotten ones, and the power
func TestSlotFailures(t *testing.T) {
	c := plain()
	x := rec(3, 5, 2)
	r := blank(t, c)
	done(t, "Log", Log(r, c, x))
	r.Die(0)
	r.Replace(1)
	r.Rot(2, 5, 100, 9)
	tells(t, "one is dead, one is new, one rots", r, c, 1, x)
	r.Die(3)
	tellsLoss(t, "the last one that has the second place is dead", r, c, 1)
	tells(t, "the other slot", r, c, 0, unused(3))
	lay(t, r, c, 1, 1, 1, frameOf(x, 1))
	tells(t, "a new one has it", r, c, 1, x)
	r.Arm(0)
	tells(t, "armed", r, c, 1, x)
	r.Flush(1)
	tellsLoss(t, "off", r, c, 0)
	tellsLoss(t, "off", r, c, 1)
	r.Boot()
	tells(t, "booted", r, c, 1, x)
	r.Die(1)
	r.Die(2)
	tellsLoss(t, "all dead", r, c, 0)
	tellsLoss(t, "all dead", r, c, 1)
}

// P10.4: a disk reads what waits ahead of what is stored; behind a crash, what came of it.
func TestSlotWhatWaits(t *testing.T) {
	c := config(2, 2, 2, 1)
	x, y := rec(2, 4, 1), rec(2, 5, 0)
	r := blank(t, c)
	done(t, "Log", Log(r, c, x))
	for i := range 2 {
		done(t, "Write", r.Write(1, 1+i, bytesOf(frameOf(y, i))))
	}
	tells(t, "it waits", r, c, 0, y)
	r.Boot()
	tells(t, "it is lost", r, c, 0, x)
	for i := range 2 {
		done(t, "Write", r.Write(1, 1+i, bytesOf(frameOf(y, i))))
	}
	r.Boot(0, 2)
	tellsPart(t, "half of it is stored", r, c, 0, 5)
}

// P10.4: Slot uses up no operation and changes nothing, with whatever on the disks.
func TestSlotIsNoOperation(t *testing.T) {
	c := plain()
	for n := range 4 {
		r := blank(t, c)
		done(t, "Log", Log(r, c, rec(3, 3, 1)))
		lay(t, r, c, 2, 1, 1, frameOf(rec(3, 5, 1), 1))
		wipe(t, r, c, 0, 2, 0, 1, 2, 3)
		done(t, "Write", r.Write(3, 2, other(1)))
		r.Die(1)
		was := sees(r)
		r.Arm(n)
		for range 5 {
			for slot := -1; slot <= 2; slot++ {
				Slot(r, c, slot)
			}
		}
		reads(t, "Slot", r, was)
		remain(t, "Slot", r, 0, n)
		r.Boot()
		was[3][2] = sees(blank(t, c))[3][2]
		reads(t, "Slot and booted", r, was)
	}
}

// P10.4, R2: what Slot tells is the caller's own: new memory each time, up to the end of its capacity.
func TestSlotIsNew(t *testing.T) {
	spoil := func(l []api.Block) {
		l = l[:cap(l)]
		for i := range l {
			for at := range l[i] {
				l[i][at] ^= 255
			}
		}
	}
	for _, c := range configs() {
		r := blank(t, c)
		x := rec(c.K, 4, 0)
		done(t, "Log", Log(r, c, x))
		slot := 4 % c.Slots
		first, _, _, _ := Slot(r, c, slot)
		second, _, _, _ := Slot(r, c, slot)
		spoil(first.Blocks)
		if !alike(second, x) {
			t.Errorf("%v: what Slot told changes with what it told before", c)
		}
		tells(t, "told again", r, c, slot, x)
		tells(t, "told again", r, c, slot, x)
		spoil(second.Blocks)
		beside, _, _, _ := Slot(r, c, (slot+1)%c.Slots)
		spoil(beside.Blocks)
		tells(t, "told a third time", r, c, slot, x)
	}
}

// P10.2, R2: Log changes nothing of what it is given, up to the end of its capacity, and keeps nothing of it.
func TestLogLeavesItsRecord(t *testing.T) {
	c := plain()
	for _, many := range []int{0, 2, 3, 4} {
		memory := blocks(9, 13)
		x := api.Rec{Seq: 6, Stripe: 1, Blocks: memory[3 : 3+many]}
		r := blank(t, c)
		Log(r, c, x)
		if !slices.Equal(memory, blocks(9, 13)) || x.Seq != 6 || x.Stripe != 1 || len(x.Blocks) != many {
			t.Errorf("the record of %d blocks has changed", many)
		}
		if many != 3 {
			tells(t, "refused", r, c, 0, unused(3))
			continue
		}
		want := api.Rec{Seq: 6, Stripe: 1, Blocks: blocks(9, 13)[3:6]}
		clear(memory)
		tells(t, "the blocks are others now", r, c, 0, want)
		r.Boot()
		tells(t, "the blocks are others now, booted", r, c, 0, want)
	}
}

// R5: what stands behind the blocks counts for nothing.
func TestLogReadsNoCapacity(t *testing.T) {
	c := plain()
	for salt := range 3 {
		memory := slices.Concat(blocks(3, 4), blocks(5, salt))
		r := blank(t, c)
		done(t, "Log", Log(r, c, api.Rec{Seq: 8, Stripe: 4, Blocks: memory[:3]}))
		tells(t, "three of eight", r, c, 0, api.Rec{Seq: 8, Stripe: 4, Blocks: blocks(3, 4)})
		refused(t, "two of eight", Log(r, c, api.Rec{Seq: 10, Blocks: memory[:2]}), at("journal.Log", 10, api.ErrArg))
	}
}

// P10.5: behind a Log each disk that was online has all of the record by itself.
func TestEachDiskHasIt(t *testing.T) {
	for _, c := range configs() {
		for keep := range c.N {
			r := blank(t, c)
			if c.N > 2 {
				r.Die((keep + 1) % c.N)
			}
			x := rec(c.K, 7, c.Stripes-1)
			done(t, "Log", Log(r, c, x))
			r.Boot()
			for d := range c.N {
				if d != keep {
					r.Die(d)
				}
			}
			tells(t, "one disk is left", r, c, 7%c.Slots, x)
		}
	}
}

// P10.5: a Log over an older record that a power failure cuts short at each operation, with each set of what waits
// being stored: the record is told, or the older one, or that none is whole, and the other slot has what it had.
func TestCutShort(t *testing.T) {
	c := config(2, 3, 3, 2)
	old, x, beside := rec(2, 5, 1), rec(2, 7, 2), rec(2, 6, 0)
	operations := logging(c, x).operations(c, []int{0, 1, 2})
	for fuse := range operations {
		seen := map[string]bool{}
		for bits := range uint64(64) {
			r := blank(t, c)
			done(t, "Log", Log(r, c, beside))
			done(t, "Log", Log(r, c, old))
			r.Arm(fuse)
			refused(t, "cut short", Log(r, c, x), at("journal.Log", 7, operations[fuse].error()))
			tellsLoss(t, "off", r, c, 1)
			r.Boot(bits%4, bits/4%4, bits/16)
			tells(t, "the other slot", r, c, 0, beside)
			seen[comesTo(t, r, c, old, x)] = true
			done(t, "Log again", Log(r, c, x))
			r.Boot()
			tells(t, "Log again", r, c, 1, x)
		}
		if fuse == 0 && (seen["part"] || seen["new"]) || fuse > 6 && (seen["old"] || seen["part"]) || fuse > 1 && !seen["new"] {
			t.Errorf("behind %d operations: %v", fuse, seen)
		}
	}
}

// comesTo wants slot 1 to be told as what the disks have of an older record and of a newer one, and tells which it is.
func comesTo(t *testing.T, r *rack.Rack, c api.Config, old, x api.Rec) string {
	t.Helper()
	has := [2]bool{}
	for d := range c.N {
		for i := range c.K {
			b, _ := r.Read(d, placeOf(c, 1, i))
			has[i] = has[i] || bytes.Equal(b, bytesOf(frameOf(x, i)))
		}
	}
	switch has {
	case [2]bool{true, true}:
		tells(t, "the newer one", r, c, 1, x)
		return "new"
	case [2]bool{}:
		tells(t, "the older one", r, c, 1, old)
		return "old"
	}
	tellsPart(t, "none is whole", r, c, 1, x.Seq)
	return "part"
}

// P10.5: a Log that is cut short can leave each place on another disk, and the record is told all the same.
func TestCutShortSpread(t *testing.T) {
	c := config(2, 3, 3, 2)
	x := rec(2, 7, 2)
	r := blank(t, c)
	r.Arm(6)
	refused(t, "cut short", Log(r, c, x), at("journal.Log", 7, at("rack.Flush", 0, api.ErrDown)))
	r.Boot(2, 0, 1)
	tells(t, "the second place on disk 0, the first on disk 2", r, c, 1, x)
	r.Die(0)
	tellsPart(t, "the first place alone", r, c, 1, 7)
}

// P10.3: a Blank takes the place of a record, however great its Seq is, and a Log that of a blank or of a greater Seq.
func TestStoringOver(t *testing.T) {
	c := plain()
	r := blank(t, c)
	for _, seq := range []int{1 << 60, 2, 4, 1<<60 - 2, 8, 6} {
		x := rec(3, seq, seq%5)
		done(t, "Log", Log(r, c, x))
		tells(t, "Log", r, c, 0, x)
	}
	done(t, "Blank", Blank(r, c, 0))
	tells(t, "Blank", r, c, 0, unused(3))
	done(t, "Log", Log(r, c, rec(3, 1<<60, 0)))
	r.Die(3)
	done(t, "Log", Log(r, c, rec(3, 4, 1)))
	tells(t, "a smaller Seq everywhere", r, c, 0, rec(3, 4, 1))
}

// the chapter's example run
func TestExampleRun(t *testing.T) {
	c := config(1, 2, 1, 2)
	r := blank(t, c)
	x := rec(1, 3, 0)
	done(t, "Log", Log(r, c, x))
	tells(t, "Slot(1)", r, c, 1, x)
	tells(t, "Slot(0)", r, c, 0, unused(1))
	for d := range 2 {
		if !r.Rot(d, 2, 50, 1) {
			t.Error("no rot")
		}
	}
	tellsLoss(t, "slot 1 rots on both disks", r, c, 1)
	tells(t, "Slot(0)", r, c, 0, unused(1))
}

// R4, R8: two racks have nothing to do with each other.
func TestTwoRacks(t *testing.T) {
	a, b := blank(t, plain()), blank(t, config(1, 2, 3, 1))
	for seq := 2; seq < 8; seq++ {
		done(t, "Log", Log(a, plain(), rec(3, seq, 1)))
		done(t, "Log", Log(b, config(1, 2, 3, 1), rec(1, seq+90, 2)))
		tells(t, "the one", a, plain(), seq%2, rec(3, seq, 1))
		tells(t, "the other one", b, config(1, 2, 3, 1), 0, rec(1, seq+90, 2))
	}
	b.Die(0)
	b.Die(1)
	tells(t, "the one", a, plain(), 1, rec(3, 7, 1))
	tellsLoss(t, "the other one", b, config(1, 2, 3, 1), 0)
}
