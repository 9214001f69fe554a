package journal

import (
	"bytes"
	"math"
	"testing"

	"stave/api"
)

// Frames and Sector tell what Log stores and where, for each configuration and slot.
func TestFramesAreWhatLogStores(t *testing.T) {
	for _, c := range configs() {
		for seq := 2; seq < 2+c.Slots; seq++ {
			r := blank(t, c)
			x := rec(c.K, seq, seq%c.Stripes)
			done(t, "Log", Log(r, c, x))
			framesStand(t, sees(r), c, seq%c.Slots, Frames(x))
		}
	}
}

// Unused tells the record that Blank stores.
func TestUnusedIsWhatBlankStores(t *testing.T) {
	for _, c := range configs() {
		x := Unused(c)
		if !alike(x, unused(c.K)) {
			t.Errorf("%v: Unused is Seq %d, Stripe %d, %d blocks", c, x.Seq, x.Stripe, len(x.Blocks))
		}
		now := sees(blank(t, c))
		for slot := range c.Slots {
			framesStand(t, now, c, slot, Frames(x))
		}
	}
}

// framesStand wants these frames to be what a slot of each disk has.
func framesStand(t *testing.T, now [][][]byte, c api.Config, slot int, frames []api.Frame) {
	t.Helper()
	if len(frames) != c.K {
		t.Fatalf("%v: %d frames", c, len(frames))
	}
	for d := range c.N {
		for i, f := range frames {
			if sector := Sector(c, slot, i); sector != placeOf(c, slot, i) || !bytes.Equal(now[d][sector], bytesOf(f)) {
				t.Errorf("%v: frame %d of slot %d is not at sector %d of disk %d", c, i, slot, sector, d)
			}
		}
	}
}

// R1, R2: what can't be a record or a configuration is answered too; an answer is new memory, and an argument stays.
func TestFramesOfOddRecords(t *testing.T) {
	for _, x := range []api.Rec{{}, {Seq: -1, Stripe: math.MaxInt}, rec(1, math.MinInt, -5), rec(20, 3, 70)} {
		frames := Frames(x)
		if len(frames) != len(x.Blocks) {
			t.Errorf("%d frames of %d blocks", len(frames), len(x.Blocks))
		}
		for i, f := range frames {
			if f != frameOf(x, i) {
				t.Errorf("frame %d is %v", i, f)
			}
		}
	}
	x := rec(3, 4, 1)
	for _, f := range Frames(x) {
		f.Data[0]++
	}
	if !alike(x, rec(3, 4, 1)) {
		t.Error("the record has changed")
	}
	for _, c := range unfit() {
		c.N, c.Id = 9, 0
		if x := Unused(c); !alike(x, api.Rec{}) {
			t.Errorf("%v: Unused is Seq %d, Stripe %d, %d blocks", c, x.Seq, x.Stripe, len(x.Blocks))
		}
	}
	first := Unused(plain())
	first.Blocks[0][0] = 1
	if !alike(Unused(plain()), unused(3)) {
		t.Error("what Unused told changes what it tells")
	}
}
