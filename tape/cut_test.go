package tape

import (
	"slices"
	"strconv"
	"testing"

	"stave/api"
	"stave/mend"
	"stave/rack"
	"stave/volume"
)

// operationsOf counts those of an Append on n disks: the journal's frames, the stripe's, and a flush of each disk behind
// both.
func operationsOf(c api.Config, n int) int { return n*c.K + n + n + n }

// settings tells each way in which so many bits can be for each of so many disks.
func settings(disks, bits int) (l [][]uint64) {
	for set := range 1 << (disks * bits) {
		var kept []uint64
		for d := range disks {
			kept = append(kept, uint64(set>>(d*bits))%(1<<bits))
		}
		l = append(l, kept)
	}
	return l
}

// whole tells whether an Append is there of which the power failed behind so many operations, and of whose waiting
// frames these were kept: each frame of its record has to be on some disk.
func whole(c api.Config, fuse int, kept []uint64) bool {
	if fuse > c.K*c.N {
		return true // a disk has been flushed
	}
	for i := range c.K {
		there := false
		for d := range c.N {
			there = there || fuse > d*c.K+i && kept[d]>>i%2 == 1
		}
		if !there {
			return false
		}
	}
	return true
}

// joined tells a list with an element more.
func joined(l [][][]byte, more [][]byte) [][][]byte { return append(slices.Clone(l), more) }

// P14.6: an Append of which the power fails behind each operation, whatever part of the waiting frames is kept: what was
// appended ahead is there in its order, the one that was cut short is there if its record is, and the next one follows.
func TestAppendCutShort(t *testing.T) {
	t.Parallel()
	for _, c := range []api.Config{config(1, 1, 3, 1), config(1, 2, 4, 2), config(1, 3, 3, 1), config(2, 2, 3, 2), config(2, 3, 2, 1), config(2, 3, 3, 3)} {
		t.Run(named("config", c.K, c.N, c.Slots), func(t *testing.T) {
			t.Parallel()
			for used := range c.Stripes {
				for fuse := range operationsOf(c, c.N) {
					for _, kept := range settings(c.N, c.K) {
						cutShort(t, c, used, fuse, kept)
					}
				}
			}
		})
	}
}

// cutShort does so once.
func cutShort(t *testing.T, c api.Config, used, fuse int, kept []uint64) {
	t.Helper()
	name := named("cut short", used, fuse) + named(" kept", int(kept[0]), int(kept[len(kept)-1]))
	r, x, l := several(t, c, used)
	cut := texts("cut", "short")
	r.Arm(fuse)
	appendRefused(t, name, x, cut, inCommit(used, api.ErrDown))
	appendRefused(t, name, x, texts("another"), inCommit(used, api.ErrDown))
	hasNot(t, name, x, l...)
	r.Boot(kept...)
	appendRefused(t, name, x, texts("another"), inCommit(used, api.ErrDown))
	if used > 0 {
		getRefused(t, name, x, 0, 0, inRead(0, api.ErrDown))
	}
	if whole(c, fuse, kept) {
		l = joined(l, cut)
	}
	x = opens(t, name, r, l...)
	if len(l) < c.Stripes {
		appends(t, name, x, len(l), texts("behind"))
		l = joined(l, texts("behind"))
	} else {
		appendRefused(t, name, x, texts("behind"), api.ErrFull)
	}
	has(t, name, x, l...)
	r.Boot()
	opens(t, name, r, l...)
}

// P14.6: the same with more disks and blocks, where not each part of what waits can be tried
func TestAppendCutShortOnMoreDisks(t *testing.T) {
	t.Parallel()
	for _, c := range []api.Config{plain(), config(3, 5, 2, 1), config(4, 8, 2, 2), config(8, 8, 3, 4)} {
		t.Run(named("config", c.K, c.N), func(t *testing.T) {
			t.Parallel()
			state := uint32(c.N)
			for fuse := range operationsOf(c, c.N) {
				for range 12 {
					kept := make([]uint64, c.N)
					for d := range kept {
						state = state*1664525 + 1013904223
						kept[d] = uint64(state >> 16)
					}
					cutShort(t, c, int(state>>13)%c.Stripes, fuse, kept)
				}
			}
		})
	}
}

// cutLeaves wants a tape behind an Append that was cut short to have what was appended ahead, and that one whole or not
// at all; it tells the tape and what this has.
func cutLeaves(t *testing.T, name string, r *rack.Rack, l [][][]byte, cut [][]byte) (*Tape, [][][]byte) {
	t.Helper()
	_, got, err := Open(r)
	done(t, name, err)
	if len(got) > len(l) {
		l = joined(l, cut)
	}
	return opens(t, name, r, l...), l
}

// P14.6: the same with any N - K disks dead, replaced, or with rot in all their sectors, which happens ahead of the
// Append, between the power failure and the Boot, behind the Boot, or behind the Open.
func TestAppendCutShortWithoutSomeDisks(t *testing.T) {
	t.Parallel()
	for _, c := range []api.Config{config(1, 2, 3, 1), config(1, 3, 3, 2), config(2, 3, 3, 2), config(2, 4, 3, 1), config(3, 4, 2, 1)} {
		for _, gone := range setsOf(c.N, c.N-c.K) {
			t.Run(named("config", c.K, c.N, c.Slots)+named(" gone", gone...), func(t *testing.T) {
				t.Parallel()
				for moment := range 4 {
					for way := range 3 {
						for fuse := range operationsOf(c, c.N) {
							for turn := range 2 {
								cutShortWithout(t, c, gone, moment, way, fuse, (3*turn+way+fuse)%6)
							}
						}
					}
				}
			})
		}
	}
}

// cutShortWithout does so once; another turn keeps other frames.
func cutShortWithout(t *testing.T, c api.Config, gone []int, moment, way, fuse, turn int) {
	t.Helper()
	name := named("moment, way, fuse, turn", moment, way, fuse, turn)
	r, x, l := several(t, c, 1)
	fails := func(now int) {
		for _, d := range gone {
			if now == moment {
				fail(t, r, d, way)
			}
		}
	}
	cut := texts("cut", "short")
	fails(0)
	r.Arm(fuse)
	if _, err := x.Append(cut); err == nil {
		l = joined(l, cut)
	}
	fails(1)
	kept := [][]uint64{nil, {all, all, all, all}, {1, 2, 4, 1}, {2, 1, 1, 2}, {3, 0, 3}, {0, 6, 0, 7}}[turn]
	r.Boot(kept...)
	fails(2)
	if len(l) > 1 {
		x = opens(t, name, r, l...)
	} else {
		x, l = cutLeaves(t, name, r, l, cut)
	}
	fails(3)
	has(t, name, x, l...)
	if len(l) < c.Stripes {
		appends(t, name, x, len(l), texts("behind"))
		l = joined(l, texts("behind"))
	}
	has(t, name, x, l...)
	r.Boot()
	opens(t, name, r, l...)
}

// P14.6: behind the Append that was cut short the Open is cut short too, at each operation, and again: once it is said
// that the Append is there or that it is not, that stays so.
func TestOpenCutShortBehindAnAppend(t *testing.T) {
	t.Parallel()
	c := config(2, 3, 3, 2)
	for fuse := range operationsOf(c, c.N) {
		t.Run(strconv.Itoa(fuse), func(t *testing.T) {
			t.Parallel()
			for second := range 40 {
				for turn := range 12 {
					set := (25*turn + 3*second + fuse) % 64
					kept := []uint64{uint64(set % 4), uint64(set / 4 % 4), uint64(set / 16)}
					other := []uint64{kept[2], kept[0], kept[1]}
					r, x, l := several(t, c, 2)
					cut := texts("cut", "short")
					r.Arm(fuse)
					appendRefused(t, "cut short", x, cut, inCommit(2, api.ErrDown))
					r.Boot(kept...)
					r.Arm(second)
					name := named("cut short", fuse, second, turn)
					if y, got, err := Open(r); err == nil {
						uses(t, name, y, len(got))
						if len(got) > 2 {
							l = joined(l, cut)
						}
						r.Boot(other...)
						opens(t, name, r, l...)
						continue
					}
					r.Boot(other...)
					if turn%3 == 0 {
						fail(t, r, (fuse+second)%3, turn%2)
					}
					x, l = cutLeaves(t, name, r, l, cut)
					r.Boot()
					x = opens(t, name, r, l...)
					if len(l) < 3 {
						appends(t, name, x, 2, texts("behind"))
					}
				}
			}
		})
	}
}

// P14.6: one Append after the other is cut short, at another operation each: none of them changes what is there.
func TestAppendsCutShortInTurn(t *testing.T) {
	c := config(2, 3, 12, 2)
	for first := range 15 {
		for step := 1; step < 5; step++ {
			r, x := started(t, c)
			var l [][][]byte
			for turn := range 15 {
				cut := [][]byte{{byte(turn), byte(first)}, some(1+turn, step)}
				r.Arm((first + turn*step) % 15)
				used := len(l)
				if used == c.Stripes {
					break
				}
				appendRefused(t, "cut short", x, cut, inCommit(used, api.ErrDown))
				r.Boot(uint64(turn), uint64(first), uint64(step))
				x, l = cutLeaves(t, named("cut short", first, step, turn), r, l, cut)
			}
		}
	}
}

// P14.6: Gets and Opens between Appends and crashes leave nothing else than what was appended; a crash in which nothing
// was cut short changes nothing, whatever is kept.
func TestCrashesBetweenAppends(t *testing.T) {
	for _, c := range few() {
		for turn := range 20 {
			r, x := started(t, c)
			var l [][][]byte
			for s := range c.Stripes {
				entries := entriesOf(c.K, s+turn)
				appends(t, "between", x, s, entries)
				l = joined(l, entries)
				if turn>>s%2 == 1 {
					r.Boot(uint64(turn), 1, 2)
				}
				if turn>>(s+1)%2 == 1 {
					has(t, "a crash, not opened", x, l...)
				} else {
					x = opens(t, "a crash", r, l...)
				}
			}
		}
	}
}

// P14.6, T4: long runs of Appends, Ticks, crashes, Opens and failures of disks, of which some N - K may fail at any time;
// which ones, changes behind each round of Ticks without a failure. What was appended is there all the time, in its
// order, and nothing else.
func TestLongLives(t *testing.T) {
	t.Parallel()
	for seed := range 60 {
		t.Run(strconv.Itoa(seed), func(t *testing.T) {
			t.Parallel()
			c := []api.Config{config(2, 3, 9, 2), config(1, 3, 16, 1), plain(), config(3, 4, 8, 4), config(2, 4, 20, 3), config(1, 2, 24, 2)}[seed%6]
			l := &life{t: t, c: c, state: uint32(seed)}
			l.begin()
			for range 400 {
				l.act()
				l.check()
			}
			if l.whole < 3 || l.appended < 20 {
				t.Errorf("%d rounds, %d Appends", l.whole, l.appended)
			}
		})
	}
}

// life is what has become of a tape. Of the disks, bad are those that may fail; clean is how many Ticks have gone by
// since one did, and whole how many rounds have been clean. An Append that was cut short is maybe there.
type life struct {
	t        *testing.T
	c        api.Config
	state    uint32
	r        *rack.Rack
	x        *Tape
	m        *mend.Mend
	l        [][][]byte
	maybe    [][]byte
	bad      []int
	clean    int
	whole    int
	appended int
}

// number tells some number below n.
func (l *life) number(n int) int {
	l.state = l.state*1664525 + 1013904223
	return int(l.state>>12) % n
}

// begin takes a new rack with a new tape.
func (l *life) begin() {
	l.t.Helper()
	l.r, l.x = started(l.t, l.c)
	l.m, l.l, l.maybe = mend.New(l.x.Volume()), nil, nil
	l.choose()
}

// choose takes others for the disks that may fail: those that are dead, and as many more as may.
func (l *life) choose() {
	l.bad, l.clean = nil, 0
	for d := range l.c.N {
		if !l.r.Up(d) {
			l.bad = append(l.bad, d)
		}
	}
	for d := l.number(l.c.N); len(l.bad) < l.c.N-l.c.K; d = (d + 1) % l.c.N {
		if !slices.Contains(l.bad, d) {
			l.bad = append(l.bad, d)
		}
	}
}

// down tells whether the tape has to be opened anew.
func (l *life) down() bool { return l.x.Volume().Down() || l.r.Off() }

func (l *life) act() {
	l.t.Helper()
	switch l.number(24) {
	case 0, 1, 2, 3, 4:
		l.append()
	case 5:
		l.r.Boot(uint64(l.state), uint64(l.state>>3), uint64(l.state>>7), 1, 2)
		l.x.Volume().Fail()
	case 6, 7, 8:
		if l.down() {
			l.r.Boot(uint64(l.state>>5), uint64(l.state>>2), 6, 1, 3)
			l.open()
		}
	case 9, 10:
		fail(l.t, l.r, l.bad[l.number(len(l.bad))], l.number(3))
		l.clean = 0
	case 11:
		l.r.Arm(l.number(60) - 3)
	case 12, 13, 14, 15:
		for range mend.Groups(l.c) {
			l.tick()
		}
	default:
		l.tick()
	}
}

// append tries one, and takes down what came of it. A full tape is followed by a new one.
func (l *life) append() {
	l.t.Helper()
	entries := entriesOf(l.c.K, l.number(1000))
	s, down := len(l.l), l.down()
	uses(l.t, "a life", l.x, s)
	switch _, err := l.x.Append(entries); {
	case s == l.c.Stripes:
		refused(l.t, "full", err, layer("tape.Append", s, api.ErrFull))
		l.begin()
	case err == nil && !down:
		l.l = joined(l.l, entries)
		l.appended++
	case down || l.down():
		refused(l.t, "down", err, layer("tape.Append", s, inCommit(s, api.ErrDown)))
		if !down {
			l.maybe = entries
		}
	default:
		l.t.Fatalf("Append is %#v", err)
	}
}

// open opens the tape anew, with a Mend that begins anew, and takes down what came of an Append that was cut short.
func (l *life) open() {
	l.t.Helper()
	if l.maybe != nil {
		l.x, l.l = cutLeaves(l.t, "a life", l.r, l.l, l.maybe)
	} else {
		l.x = opens(l.t, "a life", l.r, l.l...)
	}
	l.m, l.clean, l.maybe = mend.New(l.x.Volume()), 0, nil
}

// tick does a Tick; behind as many clean ones as there are groups, other disks may fail.
func (l *life) tick() {
	l.t.Helper()
	down := l.down()
	if _, err := l.m.Tick(); (err != nil) != l.down() {
		l.t.Fatalf("Tick is %#v", err)
	}
	if !down && !l.down() {
		l.clean++
	}
	if l.clean == mend.Groups(l.c) {
		l.whole++
		l.choose()
	}
}

// check wants the tape to have what it should.
func (l *life) check() {
	l.t.Helper()
	if l.down() {
		hasNot(l.t, "a life that is down", l.x, l.l...)
		return
	}
	has(l.t, "a life", l.x, l.l...)
	if l.t.Failed() {
		l.t.Fatalf("with %d stripes", len(l.l))
	}
}

// P14.6, T4: a disk is replaced and the tape mended, over and over, till none of the first ones is left.
func TestAllDisksInTurn(t *testing.T) {
	for _, c := range few() {
		if c.N == c.K {
			continue
		}
		r, x, l := several(t, c, c.Stripes)
		for turn := range 2 * c.N {
			r.Replace((5 * turn) % c.N)
			has(t, "one is replaced", x, l...)
			m := mend.New(x.Volume())
			for range mend.Groups(c) {
				if _, err := m.Tick(); err != nil {
					t.Errorf("Tick is %#v", err)
				}
			}
			x = opens(t, "mended", r, l...)
		}
	}
}

// P14.6: a new volume on the same rack has nothing of what was appended to the old one.
func TestMadeAnew(t *testing.T) {
	c := config(2, 3, 3, 2)
	r, x, l := several(t, c, 2)
	done(t, "Make", volume.Make(r, c))
	y := opens(t, "made anew", r)
	appends(t, "made anew", y, 0, texts("new"))
	opens(t, "made anew", r, texts("new"))
	// The old tape has what is there now.
	uses(t, "the old tape", x, 2)
	gets(t, "the old tape", x, 0, 0, []byte("new"))
	getRefused(t, "the old tape", x, 0, len(l[0]), api.ErrNone)
	getRefused(t, "the old tape", x, 1, 0, api.ErrNone)
}
