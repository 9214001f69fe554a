package volume

import (
	"bytes"
	"errors"
	"math"
	"slices"
	"testing"

	"stave/api"
	"stave/code"
	"stave/fault"
	"stave/frame"
	"stave/journal"
	"stave/rack"
	"stave/stripe"
	"stave/super"
)

// all is what Boot takes to let all that waits on a disk be stored.
const all = math.MaxUint64

// everything is what Boot takes to let all that waits be stored.
func everything() []uint64 { return []uint64{all, all, all, all, all, all, all, all} }

// plain tells a configuration of which each field has a value of its own. Its slots begin at sectors 1, 3 and 5, its
// stripes are at sectors 7 to 10, and it takes up 11.
func plain() api.Config { return api.Config{Id: 77, K: 2, N: 5, Stripes: 4, Slots: 3} }

// config tells one for n disks with k blocks a stripe.
func config(k, n, stripes, slots int) api.Config {
	return api.Config{Id: 9, K: k, N: n, Stripes: stripes, Slots: slots}
}

// few tells some with one block, one disk, one slot and one stripe, and with more of each.
func few() []api.Config {
	return []api.Config{
		plain(), config(1, 1, 1, 1), config(1, 2, 2, 1), config(1, 3, 1, 2),
		config(2, 3, 3, 2), config(3, 3, 2, 1), config(2, 4, 1, 4), config(8, 8, 1, 1),
	}
}

// configs tells one for each k with each number of disks, with one slot and with more, with one stripe and with more.
func configs() (l []api.Config) {
	for n := 1; n <= api.MaxN; n++ {
		for k := 1; k <= n; k++ {
			l = append(l, config(k, n, 2+(k+n)%4, 1), config(k, n, 1+(k+n)%2, 2+(k+n)%3))
		}
	}
	return l
}

// blocks tells k blocks with bytes of all kinds; the salt makes others of them.
func blocks(k, salt int) []api.Block {
	l := make([]api.Block, k)
	for i := range l {
		for at := range l[i] {
			l[i][at] = byte(at*at*salt + 31*at + 101*salt + 57*i + at/7)
		}
		l[i][50], l[i][51] = byte(salt), byte(salt>>8)
	}
	return l
}

// zeros tells k blocks of bytes 0.
func zeros(k int) []api.Block { return make([]api.Block, k) }

// rec tells a record of k blocks; another Seq or stripe has other blocks.
func rec(k, seq, s int) api.Rec {
	return api.Rec{Seq: seq, Stripe: s, Blocks: blocks(k, seq%1000+1000*s)}
}

// fragmentsOf tells the fragments of blocks.
func fragmentsOf(c api.Config, l []api.Block) (fragments [][api.Data]byte) {
	erasure, err := code.New(c.K, c.N)
	if err != nil {
		panic(err)
	}
	var in [][]byte
	for i := range l {
		in = append(in, l[i][:])
	}
	out, err := erasure.Encode(in)
	if err != nil {
		panic(err)
	}
	for _, f := range out {
		fragments = append(fragments, [api.Data]byte(f))
	}
	return fragments
}

// slotAt tells the sector of frame i of a slot, counted from the first one behind the superblock.
func slotAt(c api.Config, slot, i int) int {
	sector := 1
	for range slot {
		sector += c.K
	}
	return sector + i
}

// stripeAt tells the sector of stripe s, counted from the first one behind the slots.
func stripeAt(c api.Config, s int) int { return slotAt(c, c.Slots, 0) + s }

// recFrame tells frame i of a record.
func recFrame(x api.Rec, i int) api.Frame {
	return api.Frame{Kind: 2, Slot: i, Stripe: x.Stripe, Gen: x.Seq, Data: x.Blocks[i]}
}

// stripeFrame tells the frame that disk d has of the stripe of a record.
func stripeFrame(c api.Config, x api.Rec, d int) api.Frame {
	return api.Frame{Kind: 3, Slot: d, Stripe: x.Stripe, Gen: x.Seq, Data: fragmentsOf(c, x.Blocks)[d]}
}

// superFrame tells the frame that disk d has of a configuration.
func superFrame(c api.Config, d int) api.Frame {
	f := api.Frame{Kind: 1, Slot: d, Gen: 1}
	copy(f.Data[:], []byte{byte(c.Id), byte(c.Id >> 8), byte(c.Id >> 16), byte(c.Id >> 24), byte(c.K), byte(c.N), byte(c.Stripes), byte(c.Slots)})
	return f
}

// summed tells a copy of b with its CRC-32C checksum behind it, which it computes bit by bit.
func summed(b ...byte) []byte {
	sum := uint32(0xFFFFFFFF)
	for _, next := range b {
		sum ^= uint32(next)
		for range 8 {
			out := sum % 2
			sum /= 2
			sum ^= out * 0x82F63B78
		}
	}
	sum = ^sum
	return append(slices.Clone(b), byte(sum), byte(sum>>8), byte(sum>>16), byte(sum>>24))
}

// other tells bytes of a sector that are no frame.
func other(salt int) []byte {
	b := make([]byte, api.Sector)
	for i := range b {
		b[i] = byte(salt + i*i + 3*i)
	}
	return b
}

// racked wants a rack for a configuration, with sectors beyond those that it takes up.
func racked(t *testing.T, c api.Config, more int) *rack.Rack {
	t.Helper()
	r, err := rack.New(c.N, 1+c.Slots*c.K+c.Stripes+more)
	if err != nil {
		t.Fatalf("New for %v is %#v", c, err)
	}
	return r
}

// full wants a rack with other bytes at all sectors.
func full(t *testing.T, c api.Config, more int) *rack.Rack {
	t.Helper()
	r := racked(t, c, more)
	for d := range c.N {
		for sector := range r.Sectors() {
			done(t, "Write", r.Write(d, sector, other(7*d+sector)))
		}
		done(t, "Flush", r.Flush(d))
	}
	return r
}

// made wants a rack with a new volume.
func made(t *testing.T, c api.Config) *rack.Rack {
	t.Helper()
	r := racked(t, c, 0)
	done(t, "Make", Make(r, c))
	return r
}

// started wants a new volume that is open, and its rack.
func started(t *testing.T, c api.Config) (*rack.Rack, *Volume) {
	t.Helper()
	r := made(t, c)
	return r, opens(t, "a new volume", r, c, 1)
}

// opens wants Open to open the volume of a rack.
func opens(t *testing.T, name string, r *rack.Rack, c api.Config, seq int) *Volume {
	t.Helper()
	v, err := Open(r)
	if v == nil || err != nil {
		t.Fatalf("%s: Open is %v, %#v", name, v, err)
	}
	has(t, name, v, r, c, seq, false)
	return v
}

// has wants a volume to have all this.
func has(t *testing.T, name string, v *Volume, r *rack.Rack, c api.Config, seq int, down bool) {
	t.Helper()
	if v.Config() != c || v.Rack() != r || v.Seq() != seq || v.Down() != down {
		t.Errorf("%s: the volume has %v, %v, Seq %d, Down %v, want %v, Seq %d, Down %v",
			name, v.Config(), v.Rack() == r, v.Seq(), v.Down(), c, seq, down)
	}
}

// openRefused wants Open to be refused with a layer of its own around an error.
func openRefused(t *testing.T, name string, r *rack.Rack, want error) {
	t.Helper()
	v, err := Open(r)
	if v != nil {
		t.Errorf("%s: Open is %v, %#v", name, v, err)
	}
	refused(t, name, err, at("volume.Open", 0, want))
}

// reads wants Read to tell the stripe of a record.
func reads(t *testing.T, name string, v *Volume, want api.Rec) {
	t.Helper()
	l, gen, err := v.Read(want.Stripe)
	if !slices.Equal(l, want.Blocks) || gen != want.Seq || err != nil {
		t.Errorf("%s: Read(%d) is %d blocks, %d, %#v, want generation %d", name, want.Stripe, len(l), gen, err, want.Seq)
	}
}

// readRefused wants Read to be refused with a layer of its own around an error.
func readRefused(t *testing.T, name string, v *Volume, s int, want error) {
	t.Helper()
	l, gen, err := v.Read(s)
	if l != nil || gen != 0 {
		t.Errorf("%s: Read(%d) is %d blocks, %d, %#v", name, s, len(l), gen, err)
	}
	refused(t, name, err, at("volume.Read", s, want))
}

// unwritten tells what a new volume has in stripe s.
func unwritten(c api.Config, s int) api.Rec {
	return api.Rec{Seq: 1, Stripe: s, Blocks: zeros(c.K)}
}

// readsAll wants Read to tell of each stripe the last of these records, or that it was not written.
func readsAll(t *testing.T, name string, v *Volume, l ...api.Rec) {
	t.Helper()
	for s := range v.Config().Stripes {
		want := unwritten(v.Config(), s)
		for _, x := range l {
			if x.Stripe == s {
				want = x
			}
		}
		reads(t, name, v, want)
	}
}

// commits wants Commit to commit a record, with the Seq that it says.
func commits(t *testing.T, name string, v *Volume, x api.Rec) {
	t.Helper()
	if err := v.Commit(x.Stripe, x.Blocks); err != nil {
		t.Fatalf("%s: Commit(%d) is %#v", name, x.Stripe, err)
	}
	if v.Seq() != x.Seq || v.Down() {
		t.Errorf("%s: behind Commit(%d) the volume has Seq %d, Down %v, want %d", name, x.Stripe, v.Seq(), v.Down(), x.Seq)
	}
}

// commitRefused wants Commit to be refused with a layer of its own around an error, and to leave the volume as it was.
func commitRefused(t *testing.T, name string, v *Volume, x api.Rec, want error) {
	t.Helper()
	seq, down := v.Seq(), v.Down()
	refused(t, name, v.Commit(x.Stripe, x.Blocks), at("volume.Commit", x.Stripe, want))
	if v.Seq() != seq || v.Down() != down {
		t.Errorf("%s: behind Commit(%d) the volume has Seq %d, Down %v, want %d, %v", name, x.Stripe, v.Seq(), v.Down(), seq, down)
	}
}

// done wants no error.
func done(t *testing.T, name string, err error) {
	t.Helper()
	if err != nil {
		t.Fatalf("%s: %#v", name, err)
	}
}

// at tells one layer of an error.
func at(op string, n int, err error) error { return api.Fault{Op: op, At: n, Err: err} }

// same tells whether two errors are alike, layer by layer.
func same(err, want error) bool {
	var f, g api.Fault
	for errors.As(err, &f) && errors.As(want, &g) {
		if f.Op != g.Op || f.At != g.At {
			return false
		}
		err, want = f.Err, g.Err
	}
	return err == want
}

// refused wants this error, with all its layers, and its kind through all of them.
func refused(t *testing.T, name string, err, want error) {
	t.Helper()
	if !same(err, want) {
		t.Errorf("%s: refused with %#v, want %#v", name, err, want)
	}
	if kind := fault.Kind(want); kind == 0 || fault.Kind(err) != kind || !errors.Is(err, kind) {
		t.Errorf("%s: refused with %#v, which is no %d", name, err, kind)
	}
}

// noSuper tells the error of super.Find if so many disks have the configuration of the first one that has any.
func noSuper(have int) error { return at("super.Find", have, api.ErrUnavail) }

// lostSlot tells the error of a slot that is lost, and lostStripe that of a stripe of which so many parts are left.
func lostSlot(slot int) error {
	return at("journal.Slot", slot, api.Loss{Group: slot, Have: 0, Need: 1})
}

func lostStripe(c api.Config, s, have int) error {
	return at("stripe.Get", s, api.Loss{Group: s, Have: have, Need: c.K})
}

// losing wants an error to have a Loss that errors.As finds.
func losing(t *testing.T, name string, err error, want api.Loss) {
	t.Helper()
	var loss api.Loss
	if !errors.As(err, &loss) || loss != want || !errors.Is(err, api.ErrLost) {
		t.Errorf("%s: %#v has the Loss %v, want %v", name, err, loss, want)
	}
	if got, lost := fault.Lost(err); !lost || got != want {
		t.Errorf("%s: %#v has the Loss %v, %v, want %v", name, err, got, lost, want)
	}
}

// sees tells what all sectors of each disk read as; those of a dead one as nothing.
func sees(r *rack.Rack) (l [][][]byte) {
	for d := range r.N() {
		var disk [][]byte
		for sector := range r.Sectors() {
			b, _ := r.Read(d, sector)
			disk = append(disk, b)
		}
		l = append(l, disk)
	}
	return l
}

// stands wants all sectors to read so.
func stands(t *testing.T, name string, r *rack.Rack, want [][][]byte) {
	t.Helper()
	for d, disk := range sees(r) {
		for sector, b := range disk {
			if !bytes.Equal(b, want[d][sector]) {
				t.Fatalf("%s: sector %d of disk %d is % x, want % x", name, sector, d, b, want[d][sector])
			}
		}
	}
}

// remain wants just n operations to remain, which it uses up on a disk that is up.
func remain(t *testing.T, name string, r *rack.Rack, n int) {
	t.Helper()
	d := r.Online()[0]
	for range n {
		done(t, name+": an operation that remains", r.Flush(d))
	}
	if r.Off() {
		t.Errorf("%s: the power is off", name)
	}
	if err := r.Flush(d); fault.Kind(err) != api.ErrDown || !r.Off() {
		t.Errorf("%s: operations remain beyond %d: %#v", name, n, err)
	}
}

// off puts the power off by an operation on a disk that is up.
func off(t *testing.T, r *rack.Rack) {
	t.Helper()
	r.Arm(0)
	remain(t, "off", r, 0)
}

// lay stores bytes at a sector of these disks.
func lay(t *testing.T, r *rack.Rack, sector int, b []byte, disks ...int) {
	t.Helper()
	for _, d := range disks {
		done(t, "Write", r.Write(d, sector, b))
		done(t, "Flush", r.Flush(d))
	}
}

// layRec stores frame i of a record on these disks.
func layRec(t *testing.T, r *rack.Rack, c api.Config, x api.Rec, i int, disks ...int) {
	t.Helper()
	lay(t, r, slotAt(c, x.Seq%c.Slots, i), frame.Put(recFrame(x, i)), disks...)
}

// layStripe stores the stripe of a record on these disks.
func layStripe(t *testing.T, r *rack.Rack, c api.Config, x api.Rec, disks ...int) {
	t.Helper()
	for _, d := range disks {
		lay(t, r, stripeAt(c, x.Stripe), frame.Put(stripeFrame(c, x, d)), d)
	}
}

// wipe stores bytes 0 at a sector of these disks.
func wipe(t *testing.T, r *rack.Rack, sector int, disks ...int) {
	t.Helper()
	lay(t, r, sector, make([]byte, api.Sector), disks...)
}

// rots lets a sector of these disks rot.
func rots(t *testing.T, r *rack.Rack, sector int, disks ...int) {
	t.Helper()
	for _, d := range disks {
		if !r.Rot(d, sector, (31*d+sector)%125, 1<<(d+sector)) {
			t.Fatalf("sector %d of disk %d does not rot", sector, d)
		}
	}
}

// below tells the disks below n.
func below(n int) []int { return []int{0, 1, 2, 3, 4, 5, 6, 7}[:n] }

// without tells the disks below n but for some.
func without(n int, some ...int) (l []int) {
	for d := range n {
		if !slices.Contains(some, d) {
			l = append(l, d)
		}
	}
	return l
}

// disksOf tells the disks of a set.
func disksOf(set int) (l []int) {
	for d := range api.MaxN {
		if set>>d%2 == 1 {
			l = append(l, d)
		}
	}
	return l
}

// operation is a write of b at a sector of a disk, or a flush of the disk, and the error behind which it comes to
// nothing if the power fails.
type operation struct {
	disk, sector int
	b            []byte
	flush        bool
	err          error
}

// storing is a call that stores frames on disks: the layer that it puts around an error, and what it writes where.
type storing struct {
	layer   func(err error) error
	disks   []int
	sectors []int
	b       func(d, i int) []byte
}

// forgetting is the first step of Make.
func forgetting(c api.Config) storing {
	layer := func(err error) error { return err }
	return storing{layer, below(c.N), []int{0}, func(d, i int) []byte { return make([]byte, api.Sector) }}
}

// logging is a journal.Log on these disks.
func logging(c api.Config, x api.Rec, disks ...int) storing {
	s := blanking(c, x.Seq%c.Slots, disks...)
	s.layer = func(err error) error { return at("journal.Log", x.Seq, err) }
	s.b = func(d, i int) []byte { return frame.Put(recFrame(x, i)) }
	return s
}

// blanking is a journal.Blank on these disks.
func blanking(c api.Config, slot int, disks ...int) storing {
	s := storing{layer: func(err error) error { return at("journal.Blank", slot, err) }, disks: disks}
	for i := range c.K {
		s.sectors = append(s.sectors, slotAt(c, slot, i))
	}
	s.b = func(d, i int) []byte { return frame.Put(api.Frame{Kind: 2, Slot: i}) }
	return s
}

// putting is a stripe.Put of the stripe of a record on these disks.
func putting(c api.Config, x api.Rec, disks ...int) storing {
	layer := func(err error) error { return at("stripe.Put", x.Stripe, err) }
	return storing{layer, disks, []int{stripeAt(c, x.Stripe)}, func(d, i int) []byte { return frame.Put(stripeFrame(c, x, d)) }}
}

// naming is a super.Put on disk d.
func naming(c api.Config, d int) storing {
	layer := func(err error) error { return at("super.Put", d, err) }
	return storing{layer, []int{d}, []int{0}, func(d, i int) []byte { return frame.Put(superFrame(c, d)) }}
}

// operations tells those of some calls, one behind the other.
func operations(calls ...storing) (l []operation) {
	for _, s := range calls {
		for _, d := range s.disks {
			for i, sector := range s.sectors {
				l = append(l, operation{disk: d, sector: sector, b: s.b(d, i), err: s.layer(at("rack.Write", d, api.ErrDown))})
			}
		}
		for _, d := range s.disks {
			l = append(l, operation{disk: d, flush: true, err: s.layer(at("rack.Flush", d, api.ErrDown))})
		}
	}
	return l
}

// trial is a call whose operations are to be held against what they should be: it is tried again and again, each time
// on a rack of its own.
type trial struct {
	name    string
	prepare func() (*rack.Rack, func() error)
	refusal func(o operation) error
	l       []operation
	end     error // of the call whose operations all went ahead
}

// ordered wants the operations of a call to be just those, in their order: behind each one fewer the power fails, and
// then what has been written and what has been flushed shows which went ahead.
func (x trial) ordered(t *testing.T) {
	t.Helper()
	for n := range len(x.l) + 2 {
		for _, keeps := range []bool{true, false} {
			r, call := x.prepare()
			stored, waiting := sees(r), sees(r)
			for _, o := range x.l[:min(n, len(x.l))] {
				if o.flush {
					stored[o.disk] = slices.Clone(waiting[o.disk])
				} else {
					waiting[o.disk][o.sector] = o.b
				}
			}
			r.Arm(n)
			err := call()
			if n < len(x.l) {
				refused(t, x.name, err, x.refusal(x.l[n]))
			} else if !same(err, x.end) {
				t.Errorf("%s: %#v, want %#v", x.name, err, x.end)
			}
			if r.Off() != (n < len(x.l)) {
				t.Fatalf("%s: the power is off: %v, behind %d of %d operations", x.name, r.Off(), n, len(x.l))
			}
			if keeps {
				r.Boot(everything()...)
				stands(t, x.name+", all kept", r, waiting)
			} else {
				r.Boot()
				stands(t, x.name+", none kept", r, stored)
			}
		}
	}
}

// makeOrdered wants the operations of Make to be those of some calls.
func makeOrdered(t *testing.T, name string, prepare func() *rack.Rack, c api.Config, calls ...storing) {
	t.Helper()
	trial{
		name:    name,
		prepare: func() (*rack.Rack, func() error) { r := prepare(); return r, func() error { return Make(r, c) } },
		refusal: func(o operation) error { return at("volume.Make", 0, o.err) },
		l:       operations(calls...),
	}.ordered(t)
}

// openOrdered wants the operations of Open to be those of some calls, and behind them the error inside its own layer,
// or none.
func openOrdered(t *testing.T, name string, prepare func() *rack.Rack, inner error, calls ...storing) {
	t.Helper()
	trial{
		name: name,
		prepare: func() (*rack.Rack, func() error) {
			r := prepare()
			return r, func() error {
				v, err := Open(r)
				if (v == nil) != (err != nil) {
					t.Errorf("%s: Open is %v, %#v", name, v, err)
				}
				return err
			}
		},
		refusal: func(o operation) error { return at("volume.Open", 0, o.err) },
		l:       operations(calls...),
		end:     fault.Wrap("volume.Open", 0, inner),
	}.ordered(t)
}

// making tells the calls of Make.
func making(c api.Config) []storing {
	l := []storing{forgetting(c)}
	for slot := range c.Slots {
		l = append(l, blanking(c, slot, below(c.N)...))
	}
	for s := range c.Stripes {
		l = append(l, putting(c, unwritten(c, s), below(c.N)...))
	}
	for d := range c.N {
		l = append(l, naming(c, d))
	}
	return l
}

// zeroBytes tells some.
func zeroBytes(many int) []byte { return make([]byte, many) }

// P12.1: what Make leaves, written out, with one block, one slot and one stripe
func TestMakeLeastWrittenOut(t *testing.T) {
	c := api.Config{Id: 0x0A0B0C0D, K: 1, N: 2, Stripes: 1, Slots: 1}
	r := full(t, c, 2)
	want := sees(r)
	done(t, "Make", Make(r, c))
	for d := range 2 {
		want[d][0] = summed(slices.Concat([]byte{0x53, 0x54, 1, byte(d), 0, 0, 0, 0, 1, 0, 0, 0, 0, 0, 0, 0},
			[]byte{0x0D, 0x0C, 0x0B, 0x0A, 1, 2, 1, 1}, zeroBytes(100))...)
		want[d][1] = summed(slices.Concat([]byte{0x53, 0x54, 2, 0, 0, 0, 0, 0, 0, 0, 0, 0, 0, 0, 0, 0}, zeroBytes(108))...)
		want[d][2] = summed(slices.Concat([]byte{0x53, 0x54, 3, byte(d), 0, 0, 0, 0, 1, 0, 0, 0, 0, 0, 0, 0}, zeroBytes(108))...)
	}
	stands(t, "Make", r, want)
	r.Boot()
	stands(t, "Make and booted", r, want)
}

// P12.1: what Make leaves, written out, with more blocks, slots and stripes
func TestMakeMoreWrittenOut(t *testing.T) {
	c := api.Config{Id: 300, K: 2, N: 3, Stripes: 3, Slots: 2}
	r := full(t, c, 1)
	want := sees(r)
	done(t, "Make", Make(r, c))
	for d := range 3 {
		want[d][0] = summed(slices.Concat([]byte{0x53, 0x54, 1, byte(d), 0, 0, 0, 0, 1, 0, 0, 0, 0, 0, 0, 0},
			[]byte{44, 1, 0, 0, 2, 3, 3, 2}, zeroBytes(100))...)
		for i, sector := range []int{1, 2, 3, 4} {
			want[d][sector] = summed(slices.Concat([]byte{0x53, 0x54, 2, byte(i % 2), 0, 0, 0, 0, 0, 0, 0, 0, 0, 0, 0, 0}, zeroBytes(108))...)
		}
		for s, sector := range []int{5, 6, 7} {
			want[d][sector] = summed(slices.Concat([]byte{0x53, 0x54, 3, byte(d), byte(s), 0, 0, 0, 1, 0, 0, 0, 0, 0, 0, 0}, zeroBytes(108))...)
		}
	}
	stands(t, "Make", r, want)
	r.Boot()
	stands(t, "Make and booted", r, want)
}

// P12.1: what Make leaves, and what of it the lower packages tell, for each K and each number of disks
func TestMake(t *testing.T) {
	for _, c := range configs() {
		r := full(t, c, 1)
		want := sees(r)
		for _, o := range operations(making(c)...) {
			if !o.flush {
				want[o.disk][o.sector] = o.b
			}
		}
		done(t, "Make", Make(r, c))
		stands(t, "Make", r, want)
		r.Boot()
		stands(t, "Make and booted", r, want)
		if found, err := super.Find(r); found != c || err != nil {
			t.Errorf("Find is %v, %#v, want %v", found, err, c)
		}
		for slot := range c.Slots {
			x, whole, newest, err := journal.Slot(r, c, slot)
			if x.Seq != 0 || x.Stripe != 0 || !slices.Equal(x.Blocks, zeros(c.K)) || !whole || newest != 0 || err != nil {
				t.Errorf("%v: Slot(%d) is Seq %d, %v, %d, %#v", c, slot, x.Seq, whole, newest, err)
			}
		}
		for s := range c.Stripes {
			if gen, parts := stripe.Look(r, c, s); gen != 1 || len(parts) != c.N {
				t.Errorf("%v: Look(%d) is %d, %d parts", c, s, gen, len(parts))
			}
		}
		readsAll(t, "Make", opens(t, "Make", r, c, 1))
	}
}

// P12.1: the order of Make's operations, the error at each of them, and what it leaves
func TestMakeOrder(t *testing.T) {
	for _, c := range few() {
		makeOrdered(t, "Make", func() *rack.Rack { return full(t, c, 0) }, c, making(c)...)
	}
	// Over an older volume it is the same.
	c := config(1, 3, 2, 2)
	makeOrdered(t, "Make over another", func() *rack.Rack { return made(t, config(2, 3, 2, 1)) }, c, making(c)...)
}

// P12.1: Make's operations one by one, written out: through which layers each of them fails, and where
func TestMakeErrorLayers(t *testing.T) {
	c := config(1, 2, 2, 2)
	type layer struct {
		op string
		at int
	}
	no := layer{}
	for n, want := range []struct{ middle, inner layer }{
		{no, layer{"rack.Write", 0}}, {no, layer{"rack.Write", 1}}, {no, layer{"rack.Flush", 0}}, {no, layer{"rack.Flush", 1}},
		{layer{"journal.Blank", 0}, layer{"rack.Write", 0}}, {layer{"journal.Blank", 0}, layer{"rack.Write", 1}},
		{layer{"journal.Blank", 0}, layer{"rack.Flush", 0}}, {layer{"journal.Blank", 0}, layer{"rack.Flush", 1}},
		{layer{"journal.Blank", 1}, layer{"rack.Write", 0}}, {layer{"journal.Blank", 1}, layer{"rack.Write", 1}},
		{layer{"journal.Blank", 1}, layer{"rack.Flush", 0}}, {layer{"journal.Blank", 1}, layer{"rack.Flush", 1}},
		{layer{"stripe.Put", 0}, layer{"rack.Write", 0}}, {layer{"stripe.Put", 0}, layer{"rack.Write", 1}},
		{layer{"stripe.Put", 0}, layer{"rack.Flush", 0}}, {layer{"stripe.Put", 0}, layer{"rack.Flush", 1}},
		{layer{"stripe.Put", 1}, layer{"rack.Write", 0}}, {layer{"stripe.Put", 1}, layer{"rack.Write", 1}},
		{layer{"stripe.Put", 1}, layer{"rack.Flush", 0}}, {layer{"stripe.Put", 1}, layer{"rack.Flush", 1}},
		{layer{"super.Put", 0}, layer{"rack.Write", 0}}, {layer{"super.Put", 0}, layer{"rack.Flush", 0}},
		{layer{"super.Put", 1}, layer{"rack.Write", 1}}, {layer{"super.Put", 1}, layer{"rack.Flush", 1}},
	} {
		r := racked(t, c, 0)
		r.Arm(n)
		err := Make(r, c)
		layers := []layer{{"volume.Make", 0}, want.middle, want.inner}
		if want.middle == no {
			layers = []layer{{"volume.Make", 0}, want.inner}
		}
		var f api.Fault
		rest := err
		for _, l := range layers {
			if !errors.As(rest, &f) || f.Op != l.op || f.At != l.at {
				t.Errorf("operation %d: %#v, want %v", n, err, layers)
			}
			rest = f.Err
		}
		if rest != api.ErrDown || !errors.Is(err, api.ErrDown) || fault.Kind(err) != api.ErrDown || len(fault.Path(err)) != len(layers) {
			t.Errorf("operation %d: %#v", n, err)
		}
		if op, place, ok := fault.Where(err); op != want.inner.op || place != want.inner.at || !ok {
			t.Errorf("operation %d: %s, %d, %v", n, op, place, ok)
		}
	}
}

// P12.1: Make uses up as many operations as it has, and no more.
func TestMakeOperationsUsedUp(t *testing.T) {
	for _, c := range configs() {
		for more := range 2 {
			r := racked(t, c, 0)
			blank, put := c.K*c.N+c.N, 2*c.N
			r.Arm(2*c.N + c.Slots*blank + c.Stripes*put + 2*c.N + more)
			done(t, "Make", Make(r, c))
			remain(t, "Make", r, more)
		}
	}
}

// unfit tells configurations that don't fit a rack of five disks with 11 sectors.
func unfit() (l []api.Config) {
	for _, change := range []func(c *api.Config){
		func(c *api.Config) { c.N = 4 },
		func(c *api.Config) { c.N = 6 },
		func(c *api.Config) { c.Stripes = 5 },
		func(c *api.Config) { c.Slots = 4 },
		func(c *api.Config) { c.K = 3 },
		func(c *api.Config) { c.Id = 0 },
		func(c *api.Config) { c.Id = -1 },
		func(c *api.Config) { c.Id = 1 << 31 },
		func(c *api.Config) { c.K = 0 },
		func(c *api.Config) { c.K = -1 },
		func(c *api.Config) { c.K, c.Slots, c.Stripes = 6, 1, 1 },
		func(c *api.Config) { c.N = 0 },
		func(c *api.Config) { c.N = -5 },
		func(c *api.Config) { c.N = 9 },
		func(c *api.Config) { c.Stripes = 0 },
		func(c *api.Config) { c.Stripes = -1 },
		func(c *api.Config) { c.Stripes = 65 },
		func(c *api.Config) { c.Slots = 0 },
		func(c *api.Config) { c.Slots = -1 },
		func(c *api.Config) { c.K, c.Slots = 1, 5 },
		func(c *api.Config) { c.Slots, c.Stripes = math.MaxInt, math.MaxInt },
		func(c *api.Config) { c.Slots, c.K = math.MinInt, math.MinInt },
		func(c *api.Config) { *c = api.Config{} },
	} {
		c := plain()
		change(&c)
		l = append(l, c)
	}
	return l
}

// harmless wants a call to be refused with an error, to change nothing and to use up no operation.
func harmless(t *testing.T, name string, r *rack.Rack, call func() error, want error) {
	t.Helper()
	was, power := sees(r), r.Off()
	for n := range 3 {
		if !power {
			r.Arm(n)
		}
		refused(t, name, call(), want)
		stands(t, name, r, was)
		if r.Off() != power {
			t.Errorf("%s: the power is off: %v", name, r.Off())
		}
		if !power && len(r.Online()) > 0 {
			remain(t, name, r, n)
			r.Boot(everything()...)
			stands(t, name+", booted", r, was)
		}
	}
}

// P12.1: each reason to be refused, and two and three of them: a configuration that does not fit comes first.
func TestMakeRefused(t *testing.T) {
	for _, c := range append(unfit(), plain()) {
		for _, power := range []bool{true, false} {
			for _, dead := range [][]int{nil, {0}, {2}, {4}, {1, 3}, {0, 1, 2, 3}, {0, 1, 2, 3, 4}} {
				want := api.ErrArg
				if c == plain() {
					want = api.ErrUnavail
				}
				if c == plain() && power && dead == nil {
					continue
				}
				r := full(t, plain(), 0)
				done(t, "Write", r.Write(3, 2, other(99)))
				if !power {
					off(t, r)
				}
				for _, d := range dead {
					r.Die(d)
				}
				harmless(t, "Make", r, func() error { return Make(r, c) }, at("volume.Make", 0, want))
			}
		}
	}
}

// P12.1: each set of disks that are not online; one is enough. A disk that was replaced is online.
func TestMakeOnline(t *testing.T) {
	for _, c := range []api.Config{plain(), config(1, 3, 1, 1), config(2, 2, 1, 1)} {
		for set := 1; set < 1<<c.N; set++ {
			r := made(t, c)
			for _, d := range disksOf(set) {
				r.Die(d)
			}
			refused(t, "some are dead", Make(r, c), at("volume.Make", 0, api.ErrUnavail))
			for _, d := range disksOf(set) {
				refused(t, "some are dead", Make(r, c), at("volume.Make", 0, api.ErrUnavail))
				r.Replace(d)
			}
			done(t, "all are replaced", Make(r, c))
			readsAll(t, "all are replaced", opens(t, "all are replaced", r, c, 1))
		}
	}
}

// P12.1: behind a power failure that Make itself met, it is refused, and behind Boot it is not.
func TestMakeAgain(t *testing.T) {
	c := config(2, 3, 2, 2)
	for n := range len(operations(making(c)...)) {
		r := racked(t, c, 0)
		r.Arm(n)
		if err := Make(r, c); fault.Kind(err) != api.ErrDown {
			t.Errorf("Make is %#v", err)
		}
		refused(t, "off", Make(r, c), at("volume.Make", 0, api.ErrUnavail))
		openRefused(t, "off", r, api.ErrDown)
		r.Boot(5, 2)
		done(t, "booted", Make(r, c))
		readsAll(t, "booted", opens(t, "booted", r, c, 1))
	}
}

// P12.1: a volume made over another one has nothing of it, be it the same configuration or another one.
func TestMakeOver(t *testing.T) {
	old := config(2, 4, 4, 2)
	others := []api.Config{config(2, 4, 3, 1), config(1, 4, 4, 4), config(3, 4, 2, 2), config(4, 4, 1, 1), {Id: 4, K: 2, N: 4, Stripes: 4, Slots: 2}}
	for _, c := range append(others, old) {
		r, v := started(t, old)
		for seq := 2; seq < 9; seq++ {
			commits(t, "the old one", v, rec(2, seq, seq%4))
		}
		done(t, "Make", Make(r, c))
		w := opens(t, "the new one", r, c, 1)
		readsAll(t, "the new one", w)
		commits(t, "the new one", w, rec(c.K, 2, 0))
		r.Boot()
		w = opens(t, "the new one, booted", r, c, 2)
		readsAll(t, "the new one, booted", w, rec(c.K, 2, 0))
	}
}

// P12.1: a Make over another volume that is cut short at each operation, with more or less of what waits being stored,
// leaves the older one whole, no volume, or the new one whole.
func TestMakeOverCutShort(t *testing.T) {
	old := config(2, 3, 3, 2)
	for _, c := range []api.Config{old, {Id: 4, K: 1, N: 3, Stripes: 2, Slots: 3}, {Id: 5, K: 3, N: 3, Stripes: 2, Slots: 1}} {
		steps := operations(making(c)...)
		for n := range len(steps) + 1 {
			for kept := range 8 {
				r, v := started(t, old)
				l := []api.Rec{rec(2, 2, 0), rec(2, 3, 2), rec(2, 4, 0)}
				for _, x := range l {
					commits(t, "the old one", v, x)
				}
				r.Arm(n)
				err := Make(r, c)
				r.Boot(all*uint64(kept%2), all*uint64(kept/2%2), all*uint64(kept/4))
				w, refusal := Open(r)
				switch {
				case refusal != nil:
					refused(t, "none", refusal, at("volume.Open", 0, fault.Wrap("super.Find", agreeing(r), api.ErrUnavail)))
					if n == 0 || err == nil {
						t.Errorf("%v, %d: none", c, n)
					}
				case n < 6:
					has(t, "the old one", w, r, old, 4, false)
					readsAll(t, "the old one", w, l...)
				default:
					has(t, "the new one", w, r, c, 1, false)
					readsAll(t, "the new one", w)
				}
			}
		}
	}
}

// agreeing tells how many of the disks have the same configuration as the first one that has any.
func agreeing(r *rack.Rack) (have int) {
	var first api.Config
	for d := range r.N() {
		c, ok := super.Get(r, d)
		if ok && first.K == 0 {
			first = c
		}
		if ok && c == first {
			have++
		}
	}
	return have
}

// P12.1: what waits on the disks when Make comes is flushed with the rest, and does not come to light behind it.
func TestMakeOverWhatWaits(t *testing.T) {
	c := plain()
	r := racked(t, c, 2)
	for d := range c.N {
		for sector := range r.Sectors() {
			done(t, "Write", r.Write(d, sector, other(d+sector)))
		}
	}
	done(t, "Make", Make(r, c))
	want := sees(r)
	if !bytes.Equal(want[2][11], other(13)) || !bytes.Equal(want[0][12], other(12)) {
		t.Fatal("what waited is not read")
	}
	r.Boot()
	stands(t, "Make", r, want)
	readsAll(t, "Make", opens(t, "Make", r, c, 1))
}
