package mend

import (
	"bytes"
	"errors"
	"math"
	"slices"
	"testing"

	"stave/api"
	"stave/code"
	"stave/fault"
	"stave/frame"
	"stave/rack"
	"stave/volume"
)

// all is what Boot takes to let all that waits on a disk be stored.
const all = math.MaxUint64

// everything is what Boot takes to let all that waits be stored.
func everything() []uint64 { return []uint64{all, all, all, all, all, all, all, all} }

// plain tells a configuration of which each field has a value of its own. Its slots begin at sectors 1, 3 and 5, its
// stripes are at sectors 7 to 10, and it has the groups 0 to 7.
func plain() api.Config { return api.Config{Id: 77, K: 2, N: 5, Stripes: 4, Slots: 3} }

// config tells one for n disks with k blocks a stripe.
func config(k, n, stripes, slots int) api.Config {
	return api.Config{Id: 9, K: k, N: n, Stripes: stripes, Slots: slots}
}

// few tells some with one block, one disk, one slot and one stripe, and with more of each.
func few() []api.Config {
	return []api.Config{
		plain(), config(1, 1, 1, 1), config(1, 2, 2, 1), config(1, 3, 1, 2),
		config(2, 3, 3, 2), config(3, 3, 2, 1), config(2, 4, 1, 4), config(8, 8, 1, 1),
	}
}

// configs tells one for each k with each number of disks, with one slot and with more, with one stripe and with more.
func configs() (l []api.Config) {
	for n := 1; n <= api.MaxN; n++ {
		for k := 1; k <= n; k++ {
			l = append(l, config(k, n, 2+(k+n)%4, 1), config(k, n, 1+(k+n)%2, 2+(k+n)%3))
		}
	}
	return l
}

// blocks tells k blocks with bytes of all kinds; the salt makes others of them.
func blocks(k, salt int) []api.Block {
	l := make([]api.Block, k)
	for i := range l {
		for at := range l[i] {
			l[i][at] = byte(at*at*salt + 31*at + 101*salt + 57*i + at/7)
		}
		l[i][50], l[i][51] = byte(salt), byte(salt>>8)
	}
	return l
}

// zeros tells k blocks of bytes 0.
func zeros(k int) []api.Block { return make([]api.Block, k) }

// rec tells a record of k blocks; another Seq or stripe has other blocks.
func rec(k, seq, s int) api.Rec {
	return api.Rec{Seq: seq, Stripe: s, Blocks: blocks(k, seq%1000+1000*s)}
}

// fragmentsOf tells the fragments of blocks.
func fragmentsOf(c api.Config, l []api.Block) (fragments [][api.Data]byte) {
	erasure, err := code.New(c.K, c.N)
	if err != nil {
		panic(err)
	}
	var in [][]byte
	for i := range l {
		in = append(in, l[i][:])
	}
	out, err := erasure.Encode(in)
	if err != nil {
		panic(err)
	}
	for _, f := range out {
		fragments = append(fragments, [api.Data]byte(f))
	}
	return fragments
}

// slotAt tells the sector of frame i of a slot, counted from the first one behind the superblock.
func slotAt(c api.Config, slot, i int) int {
	sector := 1
	for range slot {
		sector += c.K
	}
	return sector + i
}

// stripeAt tells the sector of stripe s, counted from the first one behind the slots.
func stripeAt(c api.Config, s int) int { return slotAt(c, c.Slots, 0) + s }

// recFrame tells frame i of a record.
func recFrame(x api.Rec, i int) api.Frame {
	return api.Frame{Kind: 2, Slot: i, Stripe: x.Stripe, Gen: x.Seq, Data: x.Blocks[i]}
}

// stripeFrame tells the frame that disk d has of the stripe of a record.
func stripeFrame(c api.Config, x api.Rec, d int) api.Frame {
	return api.Frame{Kind: 3, Slot: d, Stripe: x.Stripe, Gen: x.Seq, Data: fragmentsOf(c, x.Blocks)[d]}
}

// superFrame tells the frame that disk d has of a configuration.
func superFrame(c api.Config, d int) api.Frame {
	f := api.Frame{Kind: 1, Slot: d, Gen: 1}
	copy(f.Data[:], []byte{byte(c.Id), byte(c.Id >> 8), byte(c.Id >> 16), byte(c.Id >> 24), byte(c.K), byte(c.N), byte(c.Stripes), byte(c.Slots)})
	return f
}

// summed tells a copy of b with its CRC-32C checksum behind it, which it computes bit by bit.
func summed(b ...byte) []byte {
	sum := uint32(0xFFFFFFFF)
	for _, next := range b {
		sum ^= uint32(next)
		for range 8 {
			out := sum % 2
			sum /= 2
			sum ^= out * 0x82F63B78
		}
	}
	sum = ^sum
	return append(slices.Clone(b), byte(sum), byte(sum>>8), byte(sum>>16), byte(sum>>24))
}

// other tells bytes of a sector that are no frame.
func other(salt int) []byte {
	b := make([]byte, api.Sector)
	for i := range b {
		b[i] = byte(salt + i*i + 3*i)
	}
	return b
}

// groupsOf counts the groups of a volume.
func groupsOf(c api.Config) (groups int) {
	groups++
	for range c.Slots {
		groups++
	}
	for range c.Stripes {
		groups++
	}
	return groups
}

// slotGroup tells the group of a slot, and stripeGroup that of a stripe.
func slotGroup(slot int) int { return slot + 1 }

func stripeGroup(c api.Config, s int) int { return slotGroup(c.Slots) + s }

// history is the commits that a volume has had, in their order.
type history struct {
	c api.Config
	l []api.Rec
}

// unwritten tells what a new volume has in stripe s.
func unwritten(c api.Config, s int) api.Rec {
	return api.Rec{Seq: 1, Stripe: s, Blocks: zeros(c.K)}
}

// inStripe tells the commit that stripe s has, and inSlot the one that a slot has.
func (h history) inStripe(s int) api.Rec {
	x := unwritten(h.c, s)
	for _, y := range h.l {
		if y.Stripe == s {
			x = y
		}
	}
	return x
}

func (h history) inSlot(slot int) api.Rec {
	x := api.Rec{Blocks: zeros(h.c.K)}
	for _, y := range h.l {
		if y.Seq%h.c.Slots == slot {
			x = y
		}
	}
	return x
}

// place is a sector of a disk and the frame that should be there.
type place struct {
	disk, sector int
	f            api.Frame
}

// places tells those of a group on some disks, in the order in which a Tick goes through them.
func (h history) places(group int, disks ...int) (l []place) {
	for _, d := range disks {
		switch {
		case group == 0:
			l = append(l, place{d, 0, superFrame(h.c, d)})
		case group <= h.c.Slots:
			for i := range h.c.K {
				l = append(l, place{d, slotAt(h.c, group-1, i), recFrame(h.inSlot(group-1), i)})
			}
		default:
			s := group - 1 - h.c.Slots
			l = append(l, place{d, stripeAt(h.c, s), stripeFrame(h.c, h.inStripe(s), d)})
		}
	}
	return l
}

// done wants no error.
func done(t *testing.T, name string, err error) {
	t.Helper()
	if err != nil {
		t.Fatalf("%s: %#v", name, err)
	}
}

// racked wants a rack for a configuration, with other bytes at two sectors beyond those that it takes up.
func racked(t *testing.T, c api.Config) *rack.Rack {
	t.Helper()
	needed := stripeAt(c, c.Stripes)
	r, err := rack.New(c.N, needed+2)
	done(t, "New", err)
	for d := range c.N {
		lay(t, r, needed, other(d), d)
		lay(t, r, needed+1, other(d+5), d)
	}
	return r
}

// started wants a new volume that is open, and its rack.
func started(t *testing.T, c api.Config) (*rack.Rack, *volume.Volume) {
	t.Helper()
	r := racked(t, c)
	done(t, "Make", volume.Make(r, c))
	return r, opens(t, "a new volume", r)
}

// opens wants Open to open the volume of a rack.
func opens(t *testing.T, name string, r *rack.Rack) *volume.Volume {
	t.Helper()
	v, err := volume.Open(r)
	if v == nil || err != nil {
		t.Fatalf("%s: Open is %v, %#v", name, v, err)
	}
	return v
}

// commits wants Commit to commit a record, with the Seq that it says.
func commits(t *testing.T, name string, v *volume.Volume, x api.Rec) {
	t.Helper()
	done(t, name, v.Commit(x.Stripe, x.Blocks))
	if v.Seq() != x.Seq {
		t.Fatalf("%s: the volume has Seq %d, want %d", name, v.Seq(), x.Seq)
	}
}

// filled wants a volume that has had so many commits, and tells these.
func filled(t *testing.T, c api.Config, many int) (*rack.Rack, *volume.Volume, history) {
	t.Helper()
	r, v := started(t, c)
	h := history{c: c}
	for seq := 2; seq < 2+many; seq++ {
		x := rec(c.K, seq, (seq*seq/2)%c.Stripes)
		commits(t, "filled", v, x)
		h.l = append(h.l, x)
	}
	return r, v, h
}

// reads wants Read to tell the stripe of a record.
func reads(t *testing.T, name string, v *volume.Volume, want api.Rec) {
	t.Helper()
	l, gen, err := v.Read(want.Stripe)
	if !slices.Equal(l, want.Blocks) || gen != want.Seq || err != nil {
		t.Fatalf("%s: Read(%d) is %d blocks, %d, %#v, want generation %d", name, want.Stripe, len(l), gen, err, want.Seq)
	}
}

// readsAll wants Read to tell of each stripe what it should have.
func (h history) readsAll(t *testing.T, name string, v *volume.Volume) {
	t.Helper()
	for s := range h.c.Stripes {
		reads(t, name, v, h.inStripe(s))
	}
}

// layer tells one layer of an error.
func layer(op string, n int, err error) error { return api.Fault{Op: op, At: n, Err: err} }

// same tells whether two errors are alike, layer by layer.
func same(err, want error) bool {
	var f, g api.Fault
	for errors.As(err, &f) && errors.As(want, &g) {
		if f.Op != g.Op || f.At != g.At {
			return false
		}
		err, want = f.Err, g.Err
	}
	return err == want
}

// refused wants this error, with all its layers, and its kind through all of them.
func refused(t *testing.T, name string, err, want error) {
	t.Helper()
	if !same(err, want) {
		t.Errorf("%s: refused with %#v, want %#v", name, err, want)
	}
	if kind := fault.Kind(want); kind == 0 || fault.Kind(err) != kind || !errors.Is(err, kind) {
		t.Errorf("%s: refused with %#v, which is no %d", name, err, kind)
	}
}

// lostSlot tells the error of a slot that is lost, lostStripe that of a stripe of which so many parts are left, and
// tooFew that of a stripe if fewer disks than are needed are online.
func lostSlot(slot int) error {
	return layer("journal.Slot", slot, api.Loss{Group: slot, Have: 0, Need: 1})
}

func lostStripe(c api.Config, s, have int) error {
	return layer("stripe.Get", s, api.Loss{Group: s, Have: have, Need: c.K})
}

func tooFew(s int) error { return layer("stripe.Get", s, api.ErrUnavail) }

// sees tells what all sectors of each disk read as; those of a dead one as nothing.
func sees(r *rack.Rack) (l [][][]byte) {
	for d := range r.N() {
		var disk [][]byte
		for sector := range r.Sectors() {
			b, _ := r.Read(d, sector)
			disk = append(disk, b)
		}
		l = append(l, disk)
	}
	return l
}

// looks wants all sectors to read so.
func looks(t *testing.T, name string, r *rack.Rack, want [][][]byte) {
	t.Helper()
	for d, disk := range sees(r) {
		for sector, b := range disk {
			if !bytes.Equal(b, want[d][sector]) {
				t.Fatalf("%s: sector %d of disk %d is % x, want % x", name, sector, d, b, want[d][sector])
			}
		}
	}
}

// remain wants just n operations to remain, which it uses up on a disk that is up.
func remain(t *testing.T, name string, r *rack.Rack, n int) {
	t.Helper()
	d := r.Online()[0]
	for range n {
		done(t, name+": an operation that remains", r.Flush(d))
	}
	if r.Off() {
		t.Errorf("%s: the power is off", name)
	}
	if err := r.Flush(d); fault.Kind(err) != api.ErrDown || !r.Off() {
		t.Errorf("%s: operations remain beyond %d: %#v", name, n, err)
	}
}

// off puts the power off by an operation on a disk that is up.
func off(t *testing.T, r *rack.Rack) {
	t.Helper()
	r.Arm(0)
	remain(t, "off", r, 0)
}

// lay stores bytes at a sector of these disks.
func lay(t *testing.T, r *rack.Rack, sector int, b []byte, disks ...int) {
	t.Helper()
	for _, d := range disks {
		done(t, "Write", r.Write(d, sector, b))
		done(t, "Flush", r.Flush(d))
	}
}

// layRec stores frame i of a record on these disks.
func layRec(t *testing.T, r *rack.Rack, c api.Config, x api.Rec, i int, disks ...int) {
	t.Helper()
	lay(t, r, slotAt(c, x.Seq%c.Slots, i), frame.Put(recFrame(x, i)), disks...)
}

// layStripe stores the stripe of a record on these disks.
func layStripe(t *testing.T, r *rack.Rack, c api.Config, x api.Rec, disks ...int) {
	t.Helper()
	for _, d := range disks {
		lay(t, r, stripeAt(c, x.Stripe), frame.Put(stripeFrame(c, x, d)), d)
	}
}

// wipe stores bytes 0 at a sector of these disks.
func wipe(t *testing.T, r *rack.Rack, sector int, disks ...int) {
	t.Helper()
	lay(t, r, sector, make([]byte, api.Sector), disks...)
}

// below tells the disks below n.
func below(n int) []int { return []int{0, 1, 2, 3, 4, 5, 6, 7}[:n] }

// without tells the disks below n but for some.
func without(n int, some ...int) (l []int) {
	for d := range n {
		if !slices.Contains(some, d) {
			l = append(l, d)
		}
	}
	return l
}

// disksOf tells the disks of a set.
func disksOf(set int) (l []int) {
	for d := range api.MaxN {
		if set>>d%2 == 1 {
			l = append(l, d)
		}
	}
	return l
}

// mender wants a Mend of a volume that misses nothing, at this group.
func mender(t *testing.T, v *volume.Volume, group int) *Mend {
	t.Helper()
	m := New(v)
	for range group {
		writes(t, "ahead", m, v, 0)
	}
	return m
}

// answers wants a Tick to tell this number and this error inside its own layer, and to go on to the next group; behind
// it the volume is Down or not.
func answers(t *testing.T, name string, m *Mend, v *volume.Volume, want int, inner error, down bool) {
	t.Helper()
	group := m.At()
	n, err := m.Tick()
	if n != want {
		t.Errorf("%s: the Tick of group %d wrote %d frames, want %d", name, group, n, want)
	}
	if inner == nil && err != nil {
		t.Fatalf("%s: the Tick of group %d is %#v", name, group, err)
	}
	if inner != nil {
		refused(t, name, err, layer("mend.Tick", group, inner))
	}
	next := group + 1
	if next == groupsOf(v.Config()) {
		next = 0
	}
	if m.At() != next || v.Down() != down {
		t.Fatalf("%s: behind the Tick of group %d it is at %d, Down %v, want %d, %v", name, group, m.At(), v.Down(), next, down)
	}
}

// writes wants a Tick to write so many frames.
func writes(t *testing.T, name string, m *Mend, v *volume.Volume, want int) {
	t.Helper()
	answers(t, name, m, v, want, nil, false)
}

// rounds wants a Tick of each group to write so many frames.
func rounds(t *testing.T, name string, m *Mend, v *volume.Volume, want ...int) {
	t.Helper()
	if m.At() != 0 || len(want) != groupsOf(v.Config()) {
		t.Fatalf("%s: no round of %d groups begins at %d", name, len(want), m.At())
	}
	for _, n := range want {
		writes(t, name, m, v, n)
	}
}

// misses tells how many frames each group misses on a disk that was replaced.
func misses(c api.Config, replaced int) (l []int) {
	l = append(l, replaced)
	for range c.Slots {
		l = append(l, c.K*replaced)
	}
	for range c.Stripes {
		l = append(l, replaced)
	}
	return l
}

// P13.1: the number of groups, with one slot and stripe and with more, whatever the other fields are
func TestGroups(t *testing.T) {
	for _, x := range []struct{ slots, stripes, want int }{
		{1, 1, 3}, {1, 2, 4}, {2, 1, 4}, {1, 64, 66}, {4, 1, 6}, {2, 3, 6}, {3, 2, 6}, {3, 4, 8}, {4, 64, 69},
	} {
		for _, c := range []api.Config{{}, {Id: 1, K: 1, N: 1}, {Id: 5, K: 2, N: 3}, {Id: 1<<31 - 1, K: 8, N: 8}} {
			c.Slots, c.Stripes = x.slots, x.stripes
			if got := Groups(c); got != x.want {
				t.Errorf("Groups of %v is %d, want %d", c, got, x.want)
			}
		}
	}
	for _, c := range configs() {
		if got := Groups(c); got != groupsOf(c) {
			t.Errorf("Groups of %v is %d, want %d", c, got, groupsOf(c))
		}
	}
}

// R1: Groups ends for configurations that are not right too.
func TestGroupsOfWrongConfigs(t *testing.T) {
	for _, n := range []int{-1, 0, 65, math.MaxInt, math.MinInt} {
		for _, m := range []int{-1, 0, 5, math.MaxInt, math.MinInt} {
			c := api.Config{Slots: n, Stripes: m}
			if got := Groups(c); got != 1+n+m {
				t.Errorf("Groups of %v is %d", c, got)
			}
		}
	}
}

// P13.1, P13.2: At ahead of the first Tick, behind each, and round and round
func TestAt(t *testing.T) {
	for _, c := range configs() {
		_, v := started(t, c)
		m := New(v)
		for range 3 {
			for group := range groupsOf(c) {
				if m.At() != group || m.At() != group {
					t.Fatalf("%v: At is %d, want %d", c, m.At(), group)
				}
				if n, err := m.Tick(); n != 0 || err != nil {
					t.Fatalf("%v: the Tick of group %d is %d, %#v", c, group, n, err)
				}
			}
		}
		if m.At() != 0 {
			t.Errorf("%v: At is %d behind three rounds", c, m.At())
		}
	}
}

// P13.1, P13.2: the order of the groups: the Tick at which the frame at each sector is written
func TestOrderOfTheGroups(t *testing.T) {
	for _, c := range few() {
		if c.N == c.K {
			continue
		}
		r, v := started(t, c)
		for sector := range stripeAt(c, c.Stripes) {
			group := 0
			if sector >= 1 {
				group = slotGroup((sector - 1) / c.K)
			}
			if sector >= 1+c.K*c.Slots {
				group = stripeGroup(c, sector-1-c.K*c.Slots)
			}
			m := New(v)
			wipe(t, r, sector, c.N-1)
			want := make([]int, groupsOf(c))
			want[group] = 1
			rounds(t, "one is missing", m, v, want...)
			rounds(t, "none is missing", m, v, make([]int, groupsOf(c))...)
		}
	}
}

// P13.1: each Mend has a place of its own, also if they are of one volume.
func TestSeveralMends(t *testing.T) {
	c := config(1, 2, 2, 1)
	r, v := started(t, c)
	w := opens(t, "another", r)
	first := mender(t, v, 2)
	second, third := New(v), New(w)
	if first.At() != 2 || second.At() != 0 || third.At() != 0 {
		t.Errorf("they are at %d, %d and %d", first.At(), second.At(), third.At())
	}
	r.Replace(1)
	writes(t, "the first", first, v, 1)
	writes(t, "the second", second, v, 1)
	writes(t, "the third", third, w, 0)
	writes(t, "the third", third, w, 1)
	writes(t, "the second", second, v, 0)
	if first.At() != 3 || second.At() != 2 || third.At() != 2 {
		t.Errorf("they are at %d, %d and %d", first.At(), second.At(), third.At())
	}
	v.Fail()
	writes(t, "the third", third, w, 0)
	writes(t, "the third", third, w, 1)
}

// P13.2: where the volume is Down, the power is off, or both, at each group: the Tick is refused, changes nothing, uses
// up no operation, and At stays. A power failure alone does not make the volume Down.
func TestTickRefused(t *testing.T) {
	for _, c := range []api.Config{plain(), config(1, 1, 1, 1), config(1, 2, 2, 1), config(2, 3, 1, 4)} {
		for group := range groupsOf(c) {
			for why := 1; why < 4; why++ {
				r, v, h := filled(t, c, 3)
				m := mender(t, v, group)
				spare := c.N - c.K
				for d := range spare {
					r.Replace(d)
				}
				was := sees(r)
				if why%2 == 1 {
					v.Fail()
				}
				if why/2 == 1 {
					off(t, r)
				} else {
					r.Arm(0)
				}
				for range 3 {
					n, err := m.Tick()
					refused(t, "refused", err, layer("mend.Tick", group, api.ErrDown))
					if n != 0 || m.At() != group || v.Down() != (why%2 == 1) {
						t.Errorf("%v: group %d: %d, at %d, Down %v", c, group, n, m.At(), v.Down())
					}
				}
				if why/2 == 0 {
					remain(t, "refused", r, 0)
				}
				r.Boot(everything()...)
				looks(t, "refused", r, was)
				if why == 2 {
					writes(t, "booted", m, v, misses(c, spare)[group])
					h.readsAll(t, "booted", v)
					continue
				}
				n, err := m.Tick()
				refused(t, "Down and booted", err, layer("mend.Tick", group, api.ErrDown))
				if n != 0 || m.At() != group {
					t.Errorf("%v: group %d: %d, at %d", c, group, n, m.At())
				}
				looks(t, "Down and booted", r, was)
			}
		}
	}
}

// P13.3 to P13.5: where nothing is missing, each Tick writes nothing, flushes nothing and uses up no operation; also
// where some disks are dead.
func TestNothingMissing(t *testing.T) {
	for _, c := range configs() {
		for dead := range c.N {
			r, v, h := filled(t, c, c.Slots)
			for d := range dead {
				r.Die((3*d + c.K) % c.N)
			}
			was := sees(r)
			beyond := stripeAt(c, c.Stripes)
			for _, d := range r.Online() {
				done(t, "Write", r.Write(d, beyond, other(99)))
			}
			r.Arm(2)
			m := New(v)
			for range 2 {
				for group := range groupsOf(c) {
					var inner error
					if s := group - stripeGroup(c, 0); s >= 0 && len(r.Online()) < c.K {
						inner = tooFew(s)
					}
					answers(t, "nothing is missing", m, v, 0, inner, false)
				}
			}
			if len(r.Online()) >= c.K {
				h.readsAll(t, "nothing is missing", v)
			}
			for _, d := range r.Online() {
				if b, _ := r.Read(d, beyond); !bytes.Equal(b, other(99)) {
					t.Errorf("%v: what waits on disk %d is gone", c, d)
				}
			}
			r.Boot()
			looks(t, "nothing is missing", r, was)
			r.Arm(2)
			for range groupsOf(c) {
				m.Tick()
			}
			remain(t, "nothing is missing", r, 2)
		}
	}
}

// the chapter's example run
func TestExampleRun(t *testing.T) {
	c := config(1, 2, 3, 2)
	for replaced := range 2 {
		r, v, h := filled(t, c, 4)
		m := New(v)
		r.Replace(replaced)
		rounds(t, "replaced", m, v, 1, 1, 1, 1, 1, 1)
		r.Die(1 - replaced)
		h.readsAll(t, "the other one is dead", v)
		rounds(t, "the other one is dead", m, v, 0, 0, 0, 0, 0, 0)
		r.Boot()
		w := opens(t, "opened", r)
		h.readsAll(t, "opened", w)
		rounds(t, "opened", New(w), w, 0, 0, 0, 0, 0, 0)
	}
}
