package stripe

import (
	"bytes"
	"testing"

	"stave/api"
	"stave/fault"
)

// Frames and Sector tell what Put stores and where, for each configuration.
func TestFramesAreWhatPutStores(t *testing.T) {
	for _, c := range configs() {
		for s := range c.Stripes {
			x := version(c.K, s, 9+s)
			now := sees(with(t, c, x))
			frames, err := Frames(c, s, x.gen, x.blocks)
			if len(frames) != c.N || err != nil {
				t.Fatalf("%v: Frames is %d frames, %#v", c, len(frames), err)
			}
			for d, f := range frames {
				if sector := Sector(c, s); sector != place(c, s) || f != x.frame(d) || !bytes.Equal(now[d][sector], bytesOf(f)) {
					t.Errorf("%v: the frame of stripe %d is not at sector %d of disk %d", c, s, sector, d)
				}
			}
		}
	}
}

// R1: what can't be a configuration, or another number of blocks than it has, is refused by the code.
func TestFramesRefused(t *testing.T) {
	for _, k := range []int{-1, 0, 4, 9, 1 << 40} {
		c := config(k, 3, 2, 1)
		if frames, err := Frames(c, 0, 2, blocks(3, 1)); frames != nil || !same(err, at("code.New", 0, api.ErrArg)) {
			t.Errorf("K %d: Frames is %d frames, %#v", k, len(frames), err)
		}
	}
	for _, many := range []int{0, 2, 4} {
		frames, err := Frames(plain(), 0, 2, blocks(many, 1))
		if frames != nil || fault.Kind(err) != api.ErrArg {
			t.Errorf("%d blocks: Frames is %d frames, %#v", many, len(frames), err)
		}
	}
}

// R2: an answer of Frames is new memory, and the blocks stay.
func TestFramesLeavesItsBlocks(t *testing.T) {
	x := version(3, 1, 4)
	frames, err := Frames(plain(), 1, 4, x.blocks)
	done(t, "Frames", err)
	for d := range frames {
		frames[d].Data[0]++
	}
	for i, b := range version(3, 1, 4).blocks {
		if b != x.blocks[i] {
			t.Errorf("block %d has changed", i)
		}
	}
	again, _ := Frames(plain(), 1, 4, x.blocks)
	for d, f := range again {
		if f != x.frame(d) {
			t.Errorf("frame %d is another one now", d)
		}
	}
}
