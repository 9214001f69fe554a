package tape

import (
	"bytes"
	"math"
	"slices"
	"testing"

	"stave/api"
	"stave/fault"
	"stave/rack"
	"stave/stripe"
	"stave/volume"
)

// configs tells one for each k with each number of disks, with one slot and with more, with one stripe and with more.
func configs() (l []api.Config) {
	for n := 1; n <= api.MaxN; n++ {
		for k := 1; k <= n; k++ {
			l = append(l, config(k, n, 2+(k+n)%4, 1), config(k, n, 1+(k+n)%2, 2+(k+n)%3))
		}
	}
	return l
}

// P14.5: Appends one behind the other till the tape is full, for each K and each number of disks: each is a commit of
// the filled blocks as the next stripe and nothing else.
func TestAppendsInTurn(t *testing.T) {
	for _, c := range configs() {
		r, x := started(t, c)
		twin := made(t, c)
		v, err := volume.Open(twin)
		done(t, "Open", err)
		var want [][][]byte
		for s := range c.Stripes {
			l := entriesOf(c.K, s+c.N)
			appends(t, "in turn", x, s, l)
			done(t, "Commit", v.Commit(s, filled(c.K, l)))
			want = append(want, l)
			looks(t, "in turn", r, sees(twin))
			has(t, "in turn", x, want...)
			if x.Volume().Seq() != v.Seq() {
				t.Errorf("the volume has Seq %d, want %d", x.Volume().Seq(), v.Seq())
			}
		}
		for range 2 {
			appendRefused(t, "full", x, texts("a"), api.ErrFull)
			looks(t, "full", r, sees(twin))
			x = opens(t, "full and opened", r, want...)
		}
	}
}

// P14.5: a full tape with as many stripes as there can be
func TestAppendsToTheMostStripes(t *testing.T) {
	c := config(1, 2, 64, 4)
	r, x := started(t, c)
	var want [][][]byte
	for s := range 64 {
		want = append(want, [][]byte{some(1+s, s), {byte(s)}})
		appends(t, "in turn", x, s, want[s])
		if s%9 == 0 {
			x = opens(t, "opened between", r, want...)
		}
	}
	appendRefused(t, "full", x, texts("a"), api.ErrFull)
	has(t, "full", x, want...)
	opens(t, "full", r, want...)
}

// P14.5: a power failure at each operation of an Append: its operations are those of the commit, and its error is the
// wrapped one of the commit.
func TestAppendIsACommit(t *testing.T) {
	for _, c := range few() {
		for used := range c.Stripes {
			for fuse := 0; ; fuse++ {
				r, x, _ := several(t, c, used)
				twin, y, _ := several(t, c, used)
				l := entriesOf(c.K, 20)
				r.Arm(fuse)
				twin.Arm(fuse)
				want := y.Volume().Commit(used, filled(c.K, l))
				if want != nil {
					appendRefused(t, named("cut short", fuse), x, l, want)
				} else {
					appends(t, "not cut short", x, used, l)
				}
				looks(t, named("cut short", fuse), r, sees(twin))
				if r.Off() != twin.Off() || x.Volume().Down() != y.Volume().Down() {
					t.Fatalf("fuse %d: the power is off: %v, Down %v", fuse, r.Off(), x.Volume().Down())
				}
				if want == nil {
					remain(t, "not cut short", r, 0)
					break
				}
			}
		}
	}
}

// tooMuch tells lists of entries that can't be in a stripe of two blocks.
func tooMuch() [][][]byte {
	return [][][]byte{
		nil, {}, texts(""), {nil}, texts("a", ""), texts("", "a"), {some(215, 1)}, {some(216, 1)}, {some(65537, 1)},
		{some(100, 1), some(113, 2)}, {some(214, 1), {}}, {some(214, 1), {1}}, {some(211, 1), {1, 2}}, make([][]byte, 300),
	}
}

// P14.5: ErrBig with each number of used stripes, and no operation for it
func TestAppendTooMuch(t *testing.T) {
	c := config(2, 3, 3, 2)
	for used := range 4 {
		r, x, want := several(t, c, used)
		was := sees(r)
		r.Arm(0)
		for _, l := range tooMuch() {
			appendRefused(t, "too much", x, l, api.ErrBig)
		}
		remain(t, "too much", r, 0)
		r.Boot()
		looks(t, "too much", r, was)
		has(t, "too much", x, want...)
		if x.Volume().Seq() != 1+used || x.Volume().Down() {
			t.Errorf("the volume has Seq %d, Down %v", x.Volume().Seq(), x.Volume().Down())
		}
		opens(t, "too much", r, want...)
	}
}

// P14.5: what just fits is appended.
func TestAppendToTheBrim(t *testing.T) {
	c := config(2, 3, 6, 2)
	r, x := started(t, c)
	var many [][]byte
	for i := range 72 {
		many = append(many, []byte{byte(i)})
	}
	want := [][][]byte{{some(214, 1)}, {some(100, 1), some(112, 2)}, {some(1, 1), some(211, 2)}, many, {some(212, 5)}, {some(213, 6)}}
	for s, l := range want {
		appends(t, "to the brim", x, s, l)
	}
	has(t, "to the brim", x, want...)
	opens(t, "to the brim", r, want...)
}

// reason is one for which a call is refused: how to have it, and the error inside the call's own layer.
type reason struct {
	name string
	do   func(r *rack.Rack, x *Tape)
	want error
}

// setUp has a set of reasons, and tells the first of them.
func setUp(r *rack.Rack, x *Tape, reasons []reason, set int) (first reason, some bool) {
	for i := len(reasons) - 1; i >= 0; i-- {
		if set>>i%2 == 1 {
			reasons[i].do(r, x)
			first, some = reasons[i], true
		}
	}
	return first, some
}

// P14.5: the reasons to refuse an Append, in their order: each set of them. A volume that is Down and no power are both
// ErrDown; a volume at its last Seq is full in another way than the tape.
func TestAppendRefusals(t *testing.T) {
	c := config(2, 3, 2, 1)
	for _, big := range []bool{false, true} {
		for used := range 3 {
			reasons := []reason{
				{"Down", func(r *rack.Rack, x *Tape) { x.Volume().Fail() }, inCommit(used, api.ErrDown)},
				{"off", func(r *rack.Rack, x *Tape) { off(t, r) }, inCommit(used, api.ErrDown)},
				{"too few disks", func(r *rack.Rack, x *Tape) { die(r, 0, 1) }, inCommit(used, api.ErrUnavail)},
				{"lost", func(r *rack.Rack, x *Tape) {
					if used < 2 {
						wipe(t, r, stripeAt(c, used), 0, 1)
					}
				}, inCommit(used, lostStripe(c, used, 1))},
			}
			for set := range 1 << len(reasons) {
				r, x, _ := several(t, c, used)
				first, some := setUp(r, x, reasons, set)
				l, want := texts("a"), first.want
				if used == 2 {
					want, some = api.ErrFull, true
				}
				if big {
					l, want, some = texts(""), api.ErrBig, true
				}
				if !some {
					appends(t, "no reason", x, used, l)
					continue
				}
				was, seq := sees(r), x.Volume().Seq()
				r.Arm(0)
				appendRefused(t, named(first.name, used, set), x, l, want)
				if x.Volume().Seq() != seq || x.Volume().Down() != (set%2 == 1) || r.Off() != (set>>1%2 == 1) {
					t.Errorf("%s: the volume has Seq %d, Down %v", first.name, x.Volume().Seq(), x.Volume().Down())
				}
				looks(t, first.name, r, was)
			}
		}
	}
}

// P14.5: a volume whose Seq is the greatest there is can't take a commit: that is the wrapped error of the volume. A
// full tape is so behind it too.
func TestAppendAtTheLastSeq(t *testing.T) {
	c := config(2, 3, 3, 2)
	for gen := api.MaxSeq - 3; gen <= api.MaxSeq; gen++ {
		r := made(t, c)
		puts(t, r, c, 0, gen, texts("a"))
		x := opens(t, "the last Seqs", r, texts("a"))
		want := [][][]byte{texts("a")}
		for s := 1; s < 3; s++ {
			if gen+s > api.MaxSeq {
				appendRefused(t, named("the last Seq", s), x, texts("b"), inCommit(s, api.ErrFull))
				appendRefused(t, named("the last Seq, too much", s), x, texts(""), api.ErrBig)
				break
			}
			appends(t, named("the last Seqs", s), x, s, texts("b"))
			want = append(want, texts("b"))
		}
		if len(want) == 3 {
			appendRefused(t, "full", x, texts("b"), api.ErrFull)
		}
		has(t, "the last Seqs", x, want...)
		opens(t, "the last Seqs", r, want...)
	}
}

// P14.5: behind a refusal that the volume gets over, the same Append goes on at the same stripe.
func TestAppendBehindARefusal(t *testing.T) {
	c := config(2, 3, 3, 2)
	for used := range 3 {
		r, x, want := several(t, c, used)
		l := texts("a", "bc")
		off(t, r)
		appendRefused(t, "off", x, l, inCommit(used, api.ErrDown))
		r.Boot()
		wipe(t, r, stripeAt(c, used), 0, 2)
		appendRefused(t, "lost", x, l, inCommit(used, lostStripe(c, used, 1)))
		done(t, "Put", stripe.Put(r, c, used, 1, make([]api.Block, 2)))
		appendRefused(t, "nothing", x, nil, api.ErrBig)
		appends(t, "at last", x, used, l)
		want = append(want, l)
		has(t, "at last", x, want...)
		opens(t, "at last", r, want...)
	}
}

// P14.5: Append keeps and changes nothing of what it was given, also nothing of what a slice has unused.
func TestAppendLeavesItsArguments(t *testing.T) {
	c := config(2, 3, 3, 2)
	r, x := started(t, c)
	memory := some(90, 1)
	list := [][]byte{memory[:5], memory[10:12], memory[20:55], some(9, 9)}
	want := copied(list[:3])
	appends(t, "given", x, 0, list[:3])
	if !bytes.Equal(memory, some(90, 1)) || !alike(list, append(copied(want), some(9, 9))) {
		t.Errorf("Append changes what it was given: %q", list)
	}
	spoil(memory)
	clear(list)
	has(t, "spoiled", x, want)
	// The same memory with other bytes
	list = [][]byte{memory[:60]}
	second := copied(list)
	appends(t, "given again", x, 1, list)
	spoil(memory)
	has(t, "spoiled again", x, want, second)
	r.Boot()
	opens(t, "spoiled and booted", r, want, second)
}

// P14.5: Get and Append in turn, each entry and each place beyond, before and behind Opens
func TestGetEach(t *testing.T) {
	for _, c := range few() {
		r, x := started(t, c)
		var want [][][]byte
		has(t, "nothing", x)
		for s := range c.Stripes {
			l := entriesOf(c.K, 5*s+1)
			appends(t, "each", x, s, l)
			want = append(want, l)
			has(t, "each", x, want...)
			for i := len(l); i < len(l)+4; i++ {
				getRefused(t, "beyond the last one", x, s, i, api.ErrNone)
			}
			getRefused(t, "beyond the last one", x, s, math.MaxInt, api.ErrNone)
			if s%2 == 1 {
				x = opens(t, "each", r, want...)
			}
		}
		// The other way round, and again
		for range 2 {
			for s := len(want) - 1; s >= 0; s-- {
				for i := len(want[s]) - 1; i >= 0; i-- {
					gets(t, "the other way round", x, s, i, want[s][i])
				}
			}
		}
	}
}

// P14.5: a used stripe that has no entries, and one behind whose entries other bytes stand
func TestGetOfOtherBlocks(t *testing.T) {
	c := config(2, 3, 2, 2)
	r := made(t, c)
	done(t, "Put", stripe.Put(r, c, 0, 2, inBlocks(2, 0, 0, 1, 0, 9)))
	done(t, "Put", stripe.Put(r, c, 1, 3, inBlocks(2, 1, 0, 9, 2, 0, 8, 7, 255, 255, 1)))
	x := opens(t, "other blocks", r, nil, [][]byte{{9}, {8, 7}})
	getRefused(t, "no entries", x, 0, 0, api.ErrNone)
	getRefused(t, "behind the entries", x, 1, 2, api.ErrNone)
}

// P14.5: the reasons to refuse a Get, in their order: each set of them, with numbers that are and that are not
func TestGetRefusals(t *testing.T) {
	c := config(2, 3, 4, 1)
	for _, s := range []int{0, 1, 2, 3, 4, 5, -1, math.MinInt, math.MaxInt} {
		reasons := []reason{
			{"Down", func(r *rack.Rack, x *Tape) { x.Volume().Fail() }, inRead(s, api.ErrDown)},
			{"off", func(r *rack.Rack, x *Tape) { off(t, r) }, inRead(s, tooFew(s))},
			{"too few disks", func(r *rack.Rack, x *Tape) { die(r, 0, 1) }, inRead(s, tooFew(s))},
			{"lost", func(r *rack.Rack, x *Tape) {
				if 0 <= s && s < 2 {
					wipe(t, r, stripeAt(c, s), 0, 1)
				}
			}, inRead(s, lostStripe(c, s, 1))},
		}
		for set := range 1 << len(reasons) {
			r, x, l := several(t, c, 2)
			first, some := setUp(r, x, reasons, set)
			for _, i := range []int{0, 1, 2, 3, 4, -1, math.MinInt, math.MaxInt} {
				name := named(first.name, s, i, set)
				switch {
				case s < 0 || s >= 2 || i < 0:
					getRefused(t, name, x, s, i, api.ErrNone)
				case some:
					getRefused(t, name, x, s, i, first.want)
				case i >= len(l[s]):
					getRefused(t, name, x, s, i, api.ErrNone)
				default:
					gets(t, name, x, s, i, l[s][i])
				}
			}
			uses(t, first.name, x, 2)
		}
	}
}

// P14.5: the paths of the errors of Append and Get through all layers
func TestAppendAndGetErrorPaths(t *testing.T) {
	c := config(2, 3, 3, 1)
	tells := func(err error, at int, path ...string) {
		t.Helper()
		op, where, ok := fault.Where(err)
		if !slices.Equal(fault.Path(err), path) || op != path[len(path)-1] || where != at || !ok {
			t.Errorf("the error has the path %q, %s, %d, want %q, %d", fault.Path(err), op, where, path, at)
		}
	}
	r, x, _ := several(t, c, 2)
	_, err := x.Append(nil)
	tells(err, 2, "tape.Append")
	_, err = x.Get(7, 0)
	tells(err, 7, "tape.Get")
	wipe(t, r, stripeAt(c, 1), 0, 1, 2)
	wipe(t, r, stripeAt(c, 2), 1, 2)
	_, err = x.Get(1, 0)
	tells(err, 1, "tape.Get", "volume.Read", "stripe.Get")
	losing(t, "Get", err, api.Loss{Group: 1, Have: 0, Need: 2})
	_, err = x.Append(texts("a"))
	tells(err, 2, "tape.Append", "volume.Commit", "stripe.Get")
	losing(t, "Append", err, api.Loss{Group: 2, Have: 1, Need: 2})
	die(r, 1, 2)
	_, err = x.Get(0, 0)
	tells(err, 0, "tape.Get", "volume.Read", "stripe.Get")
	_, err = x.Append(texts("a"))
	tells(err, 2, "tape.Append", "volume.Commit")
	x.Volume().Fail()
	_, err = x.Get(1, 0)
	tells(err, 1, "tape.Get", "volume.Read")
	if first := fault.First(err, api.ErrNone, api.ErrLost, api.ErrDown); first != 2 {
		t.Errorf("the first kind is %d", first)
	}
}

// P14.5: a stripe that gets lost while the tape is open: it alone is, all others stay, and Append goes on behind it. If
// enough of its frames are back, it is there again.
func TestGetOfALostStripe(t *testing.T) {
	for _, c := range []api.Config{config(1, 1, 4, 1), config(1, 3, 4, 2), config(2, 3, 4, 2), config(3, 5, 4, 1)} {
		for lost := range 3 {
			for have := range c.K {
				r, x, l := several(t, c, 3)
				var kept [][]byte
				for d := range c.N {
					b, err := r.Read(d, stripeAt(c, lost))
					done(t, "Read", err)
					kept = append(kept, b)
				}
				wipe(t, r, stripeAt(c, lost), below(c.N)[have:]...)
				check := func(name string) {
					t.Helper()
					for s := range l {
						for i := -1; i <= len(l[s]); i++ {
							switch {
							case i < 0:
								getRefused(t, name, x, s, i, api.ErrNone)
							case s == lost:
								getRefused(t, name, x, s, i, inRead(s, lostStripe(c, s, have)))
							case i == len(l[s]):
								getRefused(t, name, x, s, i, api.ErrNone)
							default:
								gets(t, name, x, s, i, l[s][i])
							}
						}
					}
				}
				check("lost")
				uses(t, "lost", x, 3)
				l = append(l, texts("behind", "it"))
				appends(t, "lost", x, 3, l[3])
				check("lost and appended")
				appendRefused(t, "lost and full", x, l[0], api.ErrFull)
				for d := have; d < c.K; d++ {
					done(t, "Write", r.Write(d, stripeAt(c, lost), kept[d]))
				}
				has(t, "back", x, l...)
			}
		}
	}
}

// P14.5: Get tells what the disks have now, whichever N - K of them are gone, and that more are gone. It is no operation.
func TestGetAsTheDisksAre(t *testing.T) {
	for _, c := range []api.Config{plain(), config(1, 3, 2, 1), config(2, 3, 3, 2), config(3, 4, 2, 4), config(1, 1, 2, 1)} {
		for many := range c.N + 1 {
			for _, gone := range setsOf(c.N, many) {
				for way := range 3 {
					r, x, l := several(t, c, 2)
					for _, d := range gone {
						fail(t, r, d, way)
					}
					was := sees(r)
					r.Arm(0)
					if many <= c.N-c.K {
						has(t, named("gone", gone...), x, l...)
					}
					for s := 0; s < 2 && many > c.N-c.K; s++ {
						want := inRead(s, lostStripe(c, s, c.N-many))
						if way == 0 {
							want = inRead(s, tooFew(s))
						}
						getRefused(t, named("gone", gone...), x, s, 0, want)
						getRefused(t, named("gone", gone...), x, s, 99, want)
					}
					hasNot(t, "gone", x, l...)
					looks(t, "gone", r, was)
					if len(r.Online()) > 0 {
						remain(t, "gone", r, 0)
					}
				}
			}
		}
	}
}

// P14.5: what Get tells is new memory.
func TestGetIsNewMemory(t *testing.T) {
	c := config(2, 3, 3, 2)
	r, x, l := several(t, c, 3)
	for s := range l {
		for i := range l[s] {
			b, err := x.Get(s, i)
			done(t, "Get", err)
			again, err := x.Get(s, i)
			done(t, "Get", err)
			spoil(b)
			if !bytes.Equal(again, l[s][i]) {
				t.Errorf("two Gets of %d, %d share memory", s, i)
			}
			has(t, "spoiled", x, l...)
		}
	}
	opens(t, "spoiled", r, l...)
}

// P14.5: a tape that was opened behind Appends of another one, and goes on
func TestAppendsOfTapesInTurn(t *testing.T) {
	c := config(2, 4, 9, 2)
	r := made(t, c)
	var want [][][]byte
	for s := range 9 {
		x := opens(t, "in turn", r, want...)
		l := entriesOf(2, 3*s)
		appends(t, "in turn", x, s, l)
		want = append(want, l)
		if s%3 == 2 {
			r.Boot(uint64(s))
		}
	}
	opens(t, "in turn", r, want...)
}
