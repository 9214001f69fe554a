package tape

import (
	"bytes"
	"errors"
	"math"
	"slices"
	"strconv"
	"testing"

	"stave/api"
	"stave/fault"
	"stave/rack"
	"stave/stripe"
	"stave/volume"
)

// all is what Boot takes to let all that waits on a disk be stored.
const all = math.MaxUint64

// plain tells a configuration of which each field has a value of its own. Its slots begin at sectors 1, 3 and 5, and its
// stripes are at sectors 7 to 10.
func plain() api.Config { return api.Config{Id: 77, K: 2, N: 5, Stripes: 4, Slots: 3} }

// config tells one for n disks with k blocks a stripe.
func config(k, n, stripes, slots int) api.Config {
	return api.Config{Id: 9, K: k, N: n, Stripes: stripes, Slots: slots}
}

// ofK tells one for the functions that ask for K alone.
func ofK(k int) api.Config { return config(k, 8, 1, 1) }

// few tells some with one block, one disk, one slot and one stripe, and with more of each.
func few() []api.Config {
	return []api.Config{
		plain(), config(1, 1, 1, 1), config(1, 2, 2, 1), config(1, 3, 1, 2),
		config(2, 3, 3, 2), config(3, 3, 2, 1), config(2, 4, 1, 4), config(8, 8, 2, 1),
	}
}

// roomOf tells the bytes of k blocks, written out.
func roomOf(k int) int { return []int{0, 108, 216, 324, 432, 540, 648, 756, 864}[k] }

// texts tells entries.
func texts(l ...string) (entries [][]byte) {
	for _, s := range l {
		entries = append(entries, []byte(s))
	}
	return entries
}

// some tells n bytes of all kinds; the salt makes others of them.
func some(n, salt int) []byte {
	b := make([]byte, n)
	for i := range b {
		b[i] = byte(i*i*salt + 7*i + 101*salt + i/5)
	}
	return b
}

// entriesOf tells entries that stand in one stripe of k blocks; another salt makes others, and another number of them.
func entriesOf(k, salt int) (l [][]byte) {
	left := roomOf(k)
	for i := range 1 + (salt+salt/4)%4 {
		n := 1 + (salt*37+i*53)%(roomOf(k)/3)
		if left -= n + 2; left < 0 {
			break
		}
		l = append(l, some(n, salt+i))
	}
	return l
}

// inBlocks tells k blocks with these bytes, and bytes 0 behind them.
func inBlocks(k int, b ...byte) []api.Block {
	l := make([]api.Block, k)
	for i, x := range b {
		l[i/108][i%108] = x
	}
	return l
}

// bytesOf tells the bytes of blocks.
func bytesOf(l []api.Block) (b []byte) {
	for _, x := range l {
		for _, y := range x {
			b = append(b, y)
		}
	}
	return b
}

// written tells entries with their lengths.
func written(l [][]byte) (b []byte) {
	for _, entry := range l {
		b = append(b, byte(len(entry)%256), byte(len(entry)/256))
		b = append(b, entry...)
	}
	return b
}

// filled tells the blocks that entries are in.
func filled(k int, l [][]byte) []api.Block { return inBlocks(k, written(l)...) }

// alike tells whether two lists of entries are.
func alike(l, want [][]byte) bool { return slices.EqualFunc(l, want, bytes.Equal) }

// copied tells a copy of a list of entries.
func copied(l [][]byte) (c [][]byte) {
	for _, entry := range l {
		c = append(c, bytes.Clone(entry))
	}
	return c
}

// slotAt tells the sector of frame i of a slot, and stripeAt that of a stripe.
func slotAt(c api.Config, slot, i int) int { return 1 + slot*c.K + i }

func stripeAt(c api.Config, s int) int { return slotAt(c, c.Slots, 0) + s }

// racked wants a rack for a configuration.
func racked(t *testing.T, c api.Config) *rack.Rack {
	t.Helper()
	r, err := rack.New(c.N, stripeAt(c, c.Stripes))
	done(t, "New", err)
	return r
}

// made wants a rack with a new volume.
func made(t *testing.T, c api.Config) *rack.Rack {
	t.Helper()
	r := racked(t, c)
	done(t, "Make", volume.Make(r, c))
	return r
}

// started wants a new tape, and its rack.
func started(t *testing.T, c api.Config) (*rack.Rack, *Tape) {
	t.Helper()
	r := made(t, c)
	return r, opens(t, "a new tape", r)
}

// several wants a tape to which so many stripes have been appended, and tells these.
func several(t *testing.T, c api.Config, many int) (*rack.Rack, *Tape, [][][]byte) {
	t.Helper()
	r, x := started(t, c)
	var l [][][]byte
	for s := range many {
		l = append(l, entriesOf(c.K, s))
		appends(t, "several", x, s, l[s])
	}
	return r, x, l
}

// opens wants Open to tell just these entries, and a tape that has them.
func opens(t *testing.T, name string, r *rack.Rack, want ...[][]byte) *Tape {
	t.Helper()
	x, l, err := Open(r)
	if x == nil || !slices.EqualFunc(l, want, alike) || err != nil {
		t.Fatalf("%s: Open is %v, %q, %#v, want %q", name, x != nil, l, err, want)
	}
	if x.Volume() == nil || x.Volume().Rack() != r {
		t.Fatalf("%s: the tape has the volume %v", name, x.Volume())
	}
	has(t, name, x, want...)
	return x
}

// has wants a tape to have just these entries.
func has(t *testing.T, name string, x *Tape, want ...[][]byte) {
	t.Helper()
	uses(t, name, x, len(want))
	for s, l := range want {
		for i, entry := range l {
			gets(t, name, x, s, i, entry)
		}
		getRefused(t, name, x, s, len(l), api.ErrNone)
	}
	hasNot(t, name, x, want...)
}

// hasNot wants a tape of which just these entries are said not to have others, whatever its disks have.
func hasNot(t *testing.T, name string, x *Tape, want ...[][]byte) {
	t.Helper()
	for s := range want {
		getRefused(t, name, x, s, -1, api.ErrNone)
		getRefused(t, name, x, s, math.MinInt, api.ErrNone)
	}
	for _, s := range []int{-1, len(want), len(want) + 1, math.MinInt, math.MaxInt} {
		for _, i := range []int{0, 1, -1} {
			getRefused(t, name, x, s, i, api.ErrNone)
		}
	}
}

// uses wants a tape to have so many used stripes.
func uses(t *testing.T, name string, x *Tape, want int) {
	t.Helper()
	if n := x.Used(); n != want {
		t.Errorf("%s: %d used stripes, want %d", name, n, want)
	}
}

// appends wants Append to append entries as this stripe.
func appends(t *testing.T, name string, x *Tape, want int, l [][]byte) {
	t.Helper()
	v := x.Volume()
	uses(t, name+", ahead", x, want)
	if s, err := x.Append(l); s != want || err != nil {
		t.Fatalf("%s: Append is %d, %#v, want %d", name, s, err, want)
	}
	uses(t, name, x, want+1)
	if x.Volume() != v {
		t.Errorf("%s: the tape has another volume behind Append", name)
	}
}

// appendRefused wants Append to be refused with a layer of its own around an error, and to leave the tape as it was.
func appendRefused(t *testing.T, name string, x *Tape, l [][]byte, want error) {
	t.Helper()
	used, v := x.Used(), x.Volume()
	s, err := x.Append(l)
	if s != 0 {
		t.Errorf("%s: Append is %d, %#v", name, s, err)
	}
	refused(t, name, err, layer("tape.Append", used, want))
	uses(t, name, x, used)
	if x.Volume() != v {
		t.Errorf("%s: the tape has another volume behind Append", name)
	}
}

// gets wants Get to tell this entry.
func gets(t *testing.T, name string, x *Tape, s, i int, want []byte) {
	t.Helper()
	if b, err := x.Get(s, i); !bytes.Equal(b, want) || err != nil {
		t.Errorf("%s: Get(%d, %d) is %q, %#v, want %q", name, s, i, b, err, want)
	}
}

// getRefused wants Get to be refused with a layer of its own around an error.
func getRefused(t *testing.T, name string, x *Tape, s, i int, want error) {
	t.Helper()
	b, err := x.Get(s, i)
	if b != nil {
		t.Errorf("%s: Get(%d, %d) is %q, %#v", name, s, i, b, err)
	}
	refused(t, name, err, layer("tape.Get", s, want))
}

// openRefused wants Open to be refused with a layer of its own around an error.
func openRefused(t *testing.T, name string, r *rack.Rack, want error) {
	t.Helper()
	x, l, err := Open(r)
	if x != nil || l != nil {
		t.Errorf("%s: Open is %v, %q, %#v", name, x != nil, l, err)
	}
	refused(t, name, err, layer("tape.Open", 0, want))
}

// done wants no error.
func done(t *testing.T, name string, err error) {
	t.Helper()
	if err != nil {
		t.Fatalf("%s: %#v", name, err)
	}
}

// layer tells one layer of an error.
func layer(op string, n int, err error) error { return api.Fault{Op: op, At: n, Err: err} }

// same tells whether two errors are alike, layer by layer.
func same(err, want error) bool {
	var f, g api.Fault
	for errors.As(err, &f) && errors.As(want, &g) {
		if f.Op != g.Op || f.At != g.At {
			return false
		}
		err, want = f.Err, g.Err
	}
	return err == want
}

// refused wants this error, with all its layers, and its kind through all of them.
func refused(t *testing.T, name string, err, want error) {
	t.Helper()
	if !same(err, want) {
		t.Errorf("%s: refused with %#v, want %#v", name, err, want)
	}
	if kind := fault.Kind(want); kind == 0 || fault.Kind(err) != kind || !errors.Is(err, kind) {
		t.Errorf("%s: refused with %#v, which is no %d", name, err, kind)
	}
}

// losing wants an error to have a Loss that errors.As finds.
func losing(t *testing.T, name string, err error, want api.Loss) {
	t.Helper()
	var loss api.Loss
	if !errors.As(err, &loss) || loss != want || !errors.Is(err, api.ErrLost) {
		t.Errorf("%s: %#v has the Loss %v, want %v", name, err, loss, want)
	}
	if got, lost := fault.Lost(err); !lost || got != want {
		t.Errorf("%s: %#v has the Loss %v, %v, want %v", name, err, got, lost, want)
	}
}

// What lower packages refuse: a rack on which so many disks have the configuration of the first one that has any, a slot
// that is lost, a stripe of which so many parts are left, and a stripe if fewer disks than are needed are online.
func noSuper(have int) error { return layer("super.Find", have, api.ErrUnavail) }

func lostSlot(slot int) error {
	return layer("journal.Slot", slot, api.Loss{Group: slot, Have: 0, Need: 1})
}

func lostStripe(c api.Config, s, have int) error {
	return layer("stripe.Get", s, api.Loss{Group: s, Have: have, Need: c.K})
}

func tooFew(s int) error { return layer("stripe.Get", s, api.ErrUnavail) }

// Layers of the volume around an error.
func inOpen(err error) error          { return layer("volume.Open", 0, err) }
func inCommit(s int, err error) error { return layer("volume.Commit", s, err) }
func inRead(s int, err error) error   { return layer("volume.Read", s, err) }

// sees tells what all sectors of each disk read as; those of a dead one as nothing.
func sees(r *rack.Rack) (l [][][]byte) {
	for d := range r.N() {
		var disk [][]byte
		for sector := range r.Sectors() {
			b, _ := r.Read(d, sector)
			disk = append(disk, b)
		}
		l = append(l, disk)
	}
	return l
}

// looks wants all sectors to read so.
func looks(t *testing.T, name string, r *rack.Rack, want [][][]byte) {
	t.Helper()
	for d, disk := range sees(r) {
		for sector, b := range disk {
			if !bytes.Equal(b, want[d][sector]) {
				t.Fatalf("%s: sector %d of disk %d is % x, want % x", name, sector, d, b, want[d][sector])
			}
		}
	}
}

// remain wants just n operations to remain, which it uses up on a disk that is up.
func remain(t *testing.T, name string, r *rack.Rack, n int) {
	t.Helper()
	d := r.Online()[0]
	for range n {
		done(t, name+": an operation that remains", r.Flush(d))
	}
	if r.Off() {
		t.Errorf("%s: the power is off", name)
	}
	if err := r.Flush(d); fault.Kind(err) != api.ErrDown || !r.Off() {
		t.Errorf("%s: operations remain beyond %d: %#v", name, n, err)
	}
}

// off puts the power off by an operation on a disk that is up.
func off(t *testing.T, r *rack.Rack) {
	t.Helper()
	r.Arm(0)
	remain(t, "off", r, 0)
}

// wipe stores bytes 0 at a sector of these disks.
func wipe(t *testing.T, r *rack.Rack, sector int, disks ...int) {
	t.Helper()
	for _, d := range disks {
		done(t, "Write", r.Write(d, sector, make([]byte, api.Sector)))
		done(t, "Flush", r.Flush(d))
	}
}

// rots lets a sector of these disks rot.
func rots(t *testing.T, r *rack.Rack, sector int, disks ...int) {
	t.Helper()
	for _, d := range disks {
		if !r.Rot(d, sector, (31*d+sector)%125, 1<<(d+sector)) {
			t.Fatalf("sector %d of disk %d does not rot", sector, d)
		}
	}
}

// puts stores entries as those of a stripe in some generation.
func puts(t *testing.T, r *rack.Rack, c api.Config, s, gen int, l [][]byte) {
	t.Helper()
	done(t, "Put", stripe.Put(r, c, s, gen, filled(c.K, l)))
}

// below tells the disks below n.
func below(n int) []int { return []int{0, 1, 2, 3, 4, 5, 6, 7}[:n] }

// setsOf tells the sets of so many disks out of n.
func setsOf(n, many int) (l [][]int) {
	for set := range 1 << n {
		var disks []int
		for d := range n {
			if set>>d%2 == 1 {
				disks = append(disks, d)
			}
		}
		if len(disks) == many {
			l = append(l, disks)
		}
	}
	return l
}

// named tells a name with numbers behind it.
func named(name string, l ...int) string {
	for _, n := range l {
		name += " " + strconv.Itoa(n)
	}
	return name
}

// the chapter's run
func TestRun(t *testing.T) {
	c := config(1, 1, 3, 1)
	ab := texts("a", "bc")
	l := Fill(c, ab)
	if len(l) != 1 || !bytes.Equal(l[0][:7], []byte{0x01, 0x00, 0x61, 0x02, 0x00, 0x62, 0x63}) {
		t.Errorf("Fill is %v", l)
	}
	if got := Empty(l); !alike(got, texts("a", "bc")) {
		t.Errorf("Empty is %q", got)
	}
	r, x := started(t, c)
	appends(t, "the first", x, 0, ab)
	appends(t, "the second", x, 1, texts("d"))
	opens(t, "opened again", r, ab, texts("d"))
}

// P14.5: Used and Volume ahead of and behind each call, whether it is refused or not
func TestUsedAndVolume(t *testing.T) {
	c := config(2, 3, 2, 1)
	r, x := started(t, c)
	v := x.Volume()
	tells := func(name string, used, seq int, down bool) {
		t.Helper()
		uses(t, name, x, used)
		if x.Volume() != v || v.Rack() != r || v.Config() != c || v.Seq() != seq || v.Down() != down {
			t.Errorf("%s: another volume, or it has Seq %d, Down %v, want %d, %v", name, v.Seq(), v.Down(), seq, down)
		}
	}
	tells("opened", 0, 1, false)
	getRefused(t, "none", x, 0, 0, api.ErrNone)
	tells("a Get of none", 0, 1, false)
	appendRefused(t, "nothing", x, nil, api.ErrBig)
	tells("an Append of nothing", 0, 1, false)
	appends(t, "the first", x, 0, texts("a"))
	tells("an Append", 1, 2, false)
	gets(t, "the first", x, 0, 0, []byte("a"))
	tells("a Get", 1, 2, false)
	opens(t, "another tape", r, texts("a"))
	tells("an Open", 1, 2, false)
	r.Arm(3)
	appendRefused(t, "cut short", x, texts("b"), inCommit(1, api.ErrDown))
	tells("an Append that was cut short", 1, 3, true)
	getRefused(t, "down", x, 0, 0, inRead(0, api.ErrDown))
	tells("a Get of a volume that is Down", 1, 3, true)
	r.Boot()
	tells("Boot", 1, 3, true)
	appendRefused(t, "down", x, texts("b"), inCommit(1, api.ErrDown))
	tells("an Append to a volume that is Down", 1, 3, true)
	x = opens(t, "opened anew", r, texts("a"))
	if x.Volume() == v {
		t.Error("Open opens no volume of its own")
	}
	v = x.Volume()
	tells("opened anew", 1, v.Seq(), false)
	appends(t, "the second", x, 1, texts("b"))
	tells("the second", 2, v.Seq(), false)
	seq := v.Seq()
	appendRefused(t, "full", x, texts("c"), api.ErrFull)
	tells("an Append to a full tape", 2, seq, false)
	r.Die(0)
	r.Die(1)
	getRefused(t, "too few disks", x, 0, 0, inRead(0, tooFew(0)))
	tells("too few disks", 2, seq, false)
	openRefused(t, "too few disks", r, inOpen(noSuper(1)))
	tells("an Open that was refused", 2, seq, false)
}

// P14.5: the tape's volume is the one that its caller can make Down, and read and write beside the tape.
func TestVolumeIsTheTapes(t *testing.T) {
	c := config(2, 3, 3, 2)
	r, x, l := several(t, c, 2)
	v := x.Volume()
	for s := range 2 {
		if got, gen, err := v.Read(s); !slices.Equal(got, filled(2, l[s])) || gen != 2+s || err != nil {
			t.Errorf("Read(%d) is %v, %d, %#v", s, got, gen, err)
		}
	}
	other := texts("other", "entries")
	done(t, "Commit", v.Commit(1, filled(2, other)))
	has(t, "a stripe is written again", x, l[0], other)
	done(t, "Commit", v.Commit(2, filled(2, other)))
	has(t, "a stripe that is not used is written", x, l[0], other)
	opens(t, "and opened", r, l[0], other, other)
	v.Fail()
	getRefused(t, "Down", x, 1, 0, inRead(1, api.ErrDown))
	appendRefused(t, "Down", x, texts("a"), inCommit(2, api.ErrDown))
	hasNot(t, "Down", x, l[0], other)
	opens(t, "opened anew", r, l[0], other, other)
}
