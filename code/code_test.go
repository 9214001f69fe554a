package code

import (
	"bytes"
	"errors"
	"math"
	"slices"
	"testing"

	"stave/api"
	"stave/fault"
)

// product multiplies two elements of the field step by step, without a table and without package gf.
func product(a, b byte) byte {
	var sum byte
	for ; b != 0; b >>= 1 {
		if b&1 == 1 {
			sum ^= a
		}
		beyond := a&0x80 != 0
		a <<= 1
		if beyond {
			a ^= 0x1d
		}
	}
	return sum
}

// inverse looks for the byte whose product with a is 1, and tells 0 if there is none.
func inverse(a byte) byte {
	for b := range 256 {
		if product(a, byte(b)) == 1 {
			return byte(b)
		}
	}
	return 0
}

// rowOf tells the row of fragment at, as the chapter says it.
func rowOf(k, at int) []byte {
	r := make([]byte, k)
	for j := range r {
		switch {
		case at >= k:
			r[j] = inverse(byte(at ^ j))
		case at == j:
			r[j] = 1
		}
	}
	return r
}

// fragmentOf tells fragment at of the blocks, byte by byte.
func fragmentOf(at int, blocks [][]byte) []byte {
	r := rowOf(len(blocks), at)
	sum := make([]byte, len(blocks[0]))
	for x := range sum {
		for j, b := range blocks {
			sum[x] ^= product(r[j], b[x])
		}
	}
	return sum
}

// blocksOf tells k blocks of so many bytes, none like another; the salt makes others of them.
func blocksOf(k, size, salt int) [][]byte {
	blocks := make([][]byte, k)
	for j := range blocks {
		blocks[j] = make([]byte, size)
		for x := range blocks[j] {
			blocks[j][x] = byte(1 + 37*j + 11*x + j*x*x + 59*salt + 7*salt*x*(j+1))
		}
	}
	return blocks
}

// pure tells k blocks of which block j alone is not of zeros: all its bytes have that value.
func pure(k, j, size int, value byte) [][]byte {
	blocks := make([][]byte, k)
	for i := range blocks {
		blocks[i] = make([]byte, size)
	}
	for x := range blocks[j] {
		blocks[j][x] = value
	}
	return blocks
}

func cloneAll(l [][]byte) [][]byte {
	var copies [][]byte
	for _, b := range l {
		copies = append(copies, slices.Clone(b))
	}
	return copies
}

func cloneParts(l []api.Part) []api.Part {
	var copies []api.Part
	for _, p := range l {
		copies = append(copies, api.Part{At: p.At, Data: slices.Clone(p.Data)})
	}
	return copies
}

func same(a, b [][]byte) bool { return slices.EqualFunc(a, b, bytes.Equal) }

func sameParts(a, b []api.Part) bool {
	return slices.EqualFunc(a, b, func(x, y api.Part) bool { return x.At == y.At && bytes.Equal(x.Data, y.Data) })
}

func partOf(at int, data ...byte) api.Part { return api.Part{At: at, Data: data} }

// refused wants exactly one layer around the bare kind, with that operation and that position.
func refused(t *testing.T, err error, op string, at int, kind api.Errno) {
	t.Helper()
	var f api.Fault
	if !errors.As(err, &f) || f != (api.Fault{Op: op, At: at, Err: kind}) || fault.Kind(err) != kind {
		t.Errorf("refused with %#v, want %s, At %d, %d", err, op, at, kind)
	}
}

func made(t *testing.T, k, n int) *Code {
	t.Helper()
	c, err := New(k, n)
	if c == nil || err != nil {
		t.Fatalf("New(%d, %d) is refused: %v", k, n, err)
	}
	return c
}

// encoded tells the fragments and the parts that they are.
func encoded(t *testing.T, c *Code, blocks [][]byte) ([][]byte, []api.Part) {
	t.Helper()
	fragments, err := c.Encode(blocks)
	if err != nil {
		t.Fatal("Encode is refused:", err)
	}
	var parts []api.Part
	for at, f := range fragments {
		parts = append(parts, api.Part{At: at, Data: f})
	}
	return fragments, parts
}

// everyCode runs a test of each k and n that there is a code for.
func everyCode(t *testing.T, test func(k, n int, c *Code)) {
	t.Helper()
	for n := 1; n <= api.MaxN; n++ {
		for k := 1; k <= n; k++ {
			test(k, n, made(t, k, n))
		}
	}
}

// orders runs a test of each choice of k numbers from 0 to n - 1, in each order.
func orders(k, n int, test func(list []int)) {
	var list []int
	var used [api.MaxN]bool
	var choose func()
	choose = func() {
		if len(list) == k {
			test(list)
			return
		}
		for at := range n {
			if !used[at] {
				used[at], list = true, append(list, at)
				choose()
				used[at], list = false, list[:len(list)-1]
			}
		}
	}
	choose()
}

// P4.1: every k and n from 1 to MaxN, beyond either end, and very great ones to both sides
func TestNew(t *testing.T) {
	numbers := []int{math.MinInt, math.MinInt + 1, -1 << 32, -256, math.MaxInt - 1, math.MaxInt, 1 << 62, 1 << 32, 1<<32 + 1, 255, 256, 257}
	for i := -10; i <= 20; i++ {
		numbers = append(numbers, i)
	}
	codes := 0
	for _, k := range numbers {
		for _, n := range numbers {
			c, err := New(k, n)
			if k >= 1 && n >= k && n <= 8 {
				codes++
				if c == nil || err != nil {
					t.Error("refused:", k, n, err)
				}
				continue
			}
			if c != nil {
				t.Error("a code for", k, n)
			}
			refused(t, err, "code.New", 0, api.ErrArg)
		}
	}
	if codes != 36 {
		t.Error("so many codes:", codes)
	}
}

// P4.1: the rows of every code. With block j of ones and the others of zeros, a fragment is byte j of its row.
func TestRows(t *testing.T) {
	everyCode(t, func(k, n int, c *Code) {
		for j := range k {
			fragments, err := c.Encode(pure(k, j, 1, 1))
			if err != nil || len(fragments) != n {
				t.Fatal(k, n, j, len(fragments), err)
			}
			for at, f := range fragments {
				if want := rowOf(k, at)[j]; !bytes.Equal(f, []byte{want}) {
					t.Errorf("%d of %d: byte %d of row %d is %d, want %d", k, n, j, at, f, want)
				}
			}
		}
	})
}

// P4.1: rows worked out by hand: the inverses of 1 to 7 are 1, 142, 244, 71, 167, 122, 186.
func TestRowsByHand(t *testing.T) {
	inverses := []byte{0, 1, 142, 244, 71, 167, 122, 186}
	for _, row := range []struct {
		k, n, at int
		want     []byte
	}{
		{1, 1, 0, []byte{1}},
		{1, 8, 7, []byte{inverses[7]}},
		{2, 3, 2, []byte{inverses[2], inverses[3]}},
		{2, 8, 3, []byte{inverses[3], inverses[2]}},
		{3, 5, 3, []byte{inverses[3], inverses[2], inverses[1]}},
		{3, 5, 4, []byte{inverses[4], inverses[5], inverses[6]}},
		{7, 8, 7, []byte{inverses[7], inverses[6], inverses[5], inverses[4], inverses[3], inverses[2], inverses[1]}},
	} {
		c := made(t, row.k, row.n)
		for j := range row.k {
			fragments, _ := encoded(t, c, pure(row.k, j, 1, 1))
			if !bytes.Equal(fragments[row.at], row.want[j:j+1]) {
				t.Errorf("%d of %d: byte %d of row %d is %d, want %d", row.k, row.n, j, row.at, fragments[row.at], row.want[j])
			}
		}
	}
}

// P4.2: fragments of every code, of blocks of no byte and of many
func TestEncode(t *testing.T) {
	everyCode(t, func(k, n int, c *Code) {
		for _, size := range []int{0, 1, 2, 5, 108, 300} {
			blocks := blocksOf(k, size, n)
			fragments, err := c.Encode(blocks)
			if err != nil || len(fragments) != n {
				t.Fatal(k, n, size, len(fragments), err)
			}
			for at, f := range fragments {
				if !bytes.Equal(f, fragmentOf(at, blocks)) {
					t.Errorf("%d of %d, %d bytes: fragment %d is %v", k, n, size, at, f)
				}
				if at < k && !bytes.Equal(f, blocks[at]) {
					t.Errorf("%d of %d, %d bytes: fragment %d is not the block", k, n, size, at)
				}
			}
		}
	})
}

// P4.2: every byte in every block
func TestEncodeOfEveryByte(t *testing.T) {
	everyCode(t, func(k, n int, c *Code) {
		for j := range k {
			blocks := pure(k, j, 256, 0)
			for x := range blocks[j] {
				blocks[j][x] = byte(x)
			}
			fragments, _ := encoded(t, c, blocks)
			for at, f := range fragments {
				if !bytes.Equal(f, fragmentOf(at, blocks)) {
					t.Errorf("%d of %d, block %d: fragment %d is %v", k, n, j, at, f)
				}
			}
		}
	})
}

// P4.2, R4: nil blocks are blocks of no byte, also beside empty ones.
func TestEncodeOfNoBytes(t *testing.T) {
	everyCode(t, func(k, n int, c *Code) {
		empty := make([][]byte, k)
		for round := range 3 {
			for j := range empty {
				if round == 1 || round == 2 && j%2 == 0 {
					empty[j] = []byte{}
				}
			}
			fragments, err := c.Encode(empty)
			if err != nil || len(fragments) != n {
				t.Fatal(k, n, round, len(fragments), err)
			}
			for at, f := range fragments {
				if len(f) != 0 {
					t.Error(k, n, round, at, f)
				}
			}
			clear(empty)
		}
	})
}

// P4.2: too few and too many blocks, and one of another length at every place
func TestEncodeRefused(t *testing.T) {
	everyCode(t, func(k, n int, c *Code) {
		wants := func(blocks [][]byte) {
			t.Helper()
			fragments, err := c.Encode(blocks)
			if fragments != nil {
				t.Error(k, n, "fragments beside an error:", fragments)
			}
			refused(t, err, "code.Encode", 0, api.ErrArg)
		}
		wants(nil)
		wants([][]byte{})
		for count := range 20 {
			if count != k {
				for _, size := range []int{0, 1, 7} {
					wants(blocksOf(count, size, 0))
				}
				wants(make([][]byte, count))
			}
		}
		wants(make([][]byte, 5000))
		for j := range k {
			for _, size := range []int{0, 1, 2, 4, 5, 300} {
				blocks := blocksOf(k, 3, 0)
				blocks[j] = make([]byte, size)
				if k > 1 {
					wants(blocks)
				}
			}
			blocks := blocksOf(k, 3, 0)
			blocks[j] = nil
			if k > 1 {
				wants(blocks)
			}
		}
	})
}

// P4.3, P4.6: from every choice of k fragments in every order the blocks come back, so whatever others are missing.
func TestDecodeOfEveryChoice(t *testing.T) {
	everyCode(t, func(k, n int, c *Code) {
		blocks := blocksOf(k, 3, n)
		_, parts := encoded(t, c, blocks)
		given := make([]api.Part, k)
		orders(k, n, func(list []int) {
			for i, at := range list {
				given[i] = parts[at]
			}
			got, err := c.Decode(given...)
			if err != nil || !same(got, blocks) {
				t.Fatalf("%d of %d, fragments %v: %v, want %v; %v", k, n, list, got, blocks, err)
			}
		})
	})
}

// P4.3: any k parts with different numbers are fragments of some blocks, whatever their bytes are: what comes of them
// has these fragments. The numbers stand in each rotation, forwards and backwards.
func TestDecodeOfAnyBytes(t *testing.T) {
	everyCode(t, func(k, n int, c *Code) {
		data := blocksOf(n, 6, k)
		for turn := range n {
			for _, step := range []int{1, n - 1} {
				var parts []api.Part
				for i := range n {
					at := (turn + i*step) % n
					parts = append(parts, partOf(at, data[at]...))
				}
				blocks, err := c.Decode(parts...)
				if err != nil || len(blocks) != k {
					t.Fatal(k, n, turn, step, err)
				}
				for _, p := range parts[:k] {
					if !bytes.Equal(fragmentOf(p.At, blocks), p.Data) {
						t.Errorf("%d of %d, from %d by %d: fragment %d of the blocks is not the part", k, n, turn, step, p.At)
					}
				}
			}
		}
	})
}

// P4.3: of the parts of each number the first one counts, and of the numbers the first k; all others may hold anything.
func TestDecodeTakesTheFirstParts(t *testing.T) {
	everyCode(t, func(k, n int, c *Code) {
		blocks := blocksOf(k, 4, 1)
		_, parts := encoded(t, c, blocks)
		for turn := range n {
			var given []api.Part
			for i := range k {
				p := parts[(turn+i)%n]
				given = append(given, p)
				for _, before := range slices.Clone(given) {
					given = append(given, partOf(before.At, 9, 8, byte(i), 255), partOf(before.At, 0, 0, 0, 0))
				}
			}
			for at := range n {
				given = append(given, partOf(at, 77, byte(at), 0, 1), partOf(n-1-at, 255, 255, 255, 255))
			}
			got, err := c.Decode(given...)
			if err != nil || !same(got, blocks) {
				t.Errorf("%d of %d, from %d on: %v, want %v; %v", k, n, turn, got, blocks, err)
			}
			for at := range n {
				got, err := c.Rebuild(at, given...)
				if err != nil || !bytes.Equal(got, parts[at].Data) {
					t.Errorf("%d of %d, from %d on: fragment %d is %v, want %v; %v", k, n, turn, at, got, parts[at].Data, err)
				}
			}
		}
	})
}

// P4.3: the same fragment very many times is one; with the others behind it the blocks come back.
func TestDecodeOfOnePartManyTimes(t *testing.T) {
	everyCode(t, func(k, n int, c *Code) {
		blocks := blocksOf(k, 2, 3)
		_, parts := encoded(t, c, blocks)
		for at := range n {
			given := slices.Repeat([]api.Part{parts[at]}, 300)
			got, err := c.Decode(given...)
			if k > 1 {
				if got != nil {
					t.Error(k, n, at, "blocks beside an error:", got)
				}
				refused(t, err, "code.Decode", 1, api.ErrShort)
			} else if err != nil || !same(got, blocks) {
				t.Error(k, n, at, got, err)
			}
			got, err = c.Decode(append(given, parts...)...)
			if err != nil || !same(got, blocks) {
				t.Error(k, n, at, got, err)
			}
		}
	})
}

// P4.3, R4: parts without data give blocks without bytes.
func TestDecodeOfNoBytes(t *testing.T) {
	everyCode(t, func(k, n int, c *Code) {
		for turn := range n {
			var given []api.Part
			for i := range k {
				p := partOf((turn + i) % n)
				if i%2 == 1 {
					p.Data = []byte{}
				}
				given = append(given, p)
			}
			got, err := c.Decode(given...)
			if err != nil || len(got) != k {
				t.Fatal(k, n, turn, got, err)
			}
			for j, b := range got {
				if len(b) != 0 {
					t.Error(k, n, turn, j, b)
				}
			}
			if f, err := c.Rebuild(turn, given...); err != nil || len(f) != 0 {
				t.Error(k, n, turn, f, err)
			}
		}
	})
}

// P4.3: too few numbers: every set of fewer than k, alone and each of them several times; and no part at all
func TestDecodeOfTooFew(t *testing.T) {
	everyCode(t, func(k, n int, c *Code) {
		_, parts := encoded(t, c, blocksOf(k, 2, 0))
		for set := range 1 << n {
			var given, again []api.Part
			for at := range n {
				if set>>at&1 == 1 {
					given = append(given, parts[at])
					again = append(again, parts[at], partOf(at, 5, 5), parts[at])
				}
			}
			if len(given) >= k {
				continue
			}
			for _, l := range [][]api.Part{given, again} {
				got, err := c.Decode(l...)
				if got != nil {
					t.Error(k, n, set, "blocks beside an error:", got)
				}
				refused(t, err, "code.Decode", len(given), api.ErrShort)
			}
		}
		if got, err := c.Decode([]api.Part{}...); got != nil {
			t.Error(k, n, "blocks of no part")
		} else {
			refused(t, err, "code.Decode", 0, api.ErrShort)
		}
	})
}

// badParts are lists with one part that can't be, at the place that is told: a number just outside or far outside, or
// data of another length than the first part's. Some lists have parts enough before it, some too few.
func badParts(n int) (lists [][]api.Part, places []int) {
	add := func(place int, l ...api.Part) { lists, places = append(lists, l), append(places, place) }
	for length := range n + 3 {
		var good []api.Part
		for i := range length {
			good = append(good, partOf(i%n, byte(i), 2))
		}
		for _, at := range []int{-1, n, n + 1, -n, api.MaxN, api.MaxN + 1, 256, -256, 1 << 32, math.MaxInt, math.MinInt} {
			add(length, append(slices.Clone(good), partOf(at, 1, 2))...)
			add(length, append(append(slices.Clone(good), partOf(at, 1, 2)), good...)...)
			add(length, append(slices.Clone(good), partOf(at, 1, 2), partOf(-1, 1), partOf(0, 1, 2, 3))...)
		}
		for _, data := range [][]byte{nil, {}, {1}, {1, 2, 3}, make([]byte, 258)} {
			if length > 0 {
				bad := partOf(length%n, data...)
				add(length, append(slices.Clone(good), bad)...)
				add(length, append(append(slices.Clone(good), bad), good...)...)
				add(length, append(slices.Clone(good), bad, partOf(n, 1, 2))...)
				add(length, append(slices.Clone(good), partOf(good[0].At, data...))...)
			}
		}
	}
	// The first part is the measure, even where all others are like one another.
	add(1, partOf(0, 1), partOf(0, 1, 2), partOf(0, 1, 2))
	add(1, partOf(0), partOf(0, 1), partOf(0, 1))
	add(2, partOf(0), partOf(0), partOf(0, 1))
	// A first part without a fragment is told ahead of one behind it that is not as long.
	add(0, partOf(n, 1), partOf(0, 1, 2))
	add(0, partOf(-1), partOf(0, 1, 2))
	return lists, places
}

// P4.3, P4.4, R3: a part that can't be is told with its place, wherever it stands and however few or many others there
// are, and Rebuild tells it as Decode does.
func TestDecodeOfBadParts(t *testing.T) {
	everyCode(t, func(k, n int, c *Code) {
		lists, places := badParts(n)
		for i, l := range lists {
			got, err := c.Decode(l...)
			if got != nil {
				t.Error(k, n, i, "blocks beside an error:", got)
			}
			refused(t, err, "code.Decode", places[i], api.ErrForm)
			fragment, err := c.Rebuild(i%n, l...)
			if fragment != nil {
				t.Error(k, n, i, "a fragment beside an error:", fragment)
			}
			refused(t, err, "code.Decode", places[i], api.ErrForm)
		}
	})
}

// P4.4: every fragment out of every set of fragments that is enough, and the error of Decode if it is not
func TestRebuild(t *testing.T) {
	everyCode(t, func(k, n int, c *Code) {
		fragments, parts := encoded(t, c, blocksOf(k, 4, 2))
		for set := range 1 << n {
			var given []api.Part
			for at := range n {
				if set>>at&1 == 1 {
					given = append(given, parts[at])
				}
			}
			for at := range n {
				got, err := c.Rebuild(at, given...)
				if len(given) < k {
					if got != nil {
						t.Error(k, n, set, at, "a fragment beside an error:", got)
					}
					refused(t, err, "code.Decode", len(given), api.ErrShort)
				} else if err != nil || !bytes.Equal(got, fragments[at]) {
					t.Fatal(k, n, set, at, got, err)
				}
			}
		}
	})
}

// P4.4: the fragment is one of the blocks that Decode tells, also if a part of the same number holds other bytes.
func TestRebuildOfOtherBlocks(t *testing.T) {
	everyCode(t, func(k, n int, c *Code) {
		given := make([]api.Part, n)
		for at, data := range blocksOf(n, 5, 4) {
			given[n-1-at] = api.Part{At: at, Data: data}
		}
		blocks, err := c.Decode(given...)
		if err != nil {
			t.Fatal(k, n, err)
		}
		for at := range n {
			got, err := c.Rebuild(at, given...)
			if err != nil || !bytes.Equal(got, fragmentOf(at, blocks)) {
				t.Error(k, n, at, got, err)
			}
		}
	})
}

// P4.4, R3: a number without a fragment is told first, whatever the parts are.
func TestRebuildRefused(t *testing.T) {
	everyCode(t, func(k, n int, c *Code) {
		_, parts := encoded(t, c, blocksOf(k, 2, 0))
		lists := [][]api.Part{nil, parts, parts[:k-1], {partOf(n, 1)}, {partOf(0, 1), partOf(0)}}
		for _, at := range []int{-1, -2, n, n + 1, api.MaxN, 256, -256, 1 << 32, math.MaxInt, math.MinInt} {
			if at >= 0 && at < n {
				continue
			}
			for i, l := range lists {
				got, err := c.Rebuild(at, l...)
				if got != nil {
					t.Error(k, n, at, i, "a fragment beside an error:", got)
				}
				refused(t, err, "code.Rebuild", at, api.ErrArg)
			}
		}
	})
}

// P4.5: every fragment and every block: the fragment before and what Delta tells make the fragment afterwards.
func TestDelta(t *testing.T) {
	everyCode(t, func(k, n int, c *Code) {
		for _, size := range []int{0, 1, 4, 108} {
			was := blocksOf(k, size, 5)
			before, _ := encoded(t, c, was)
			for j, block := range blocksOf(k, size, 6) {
				now := slices.Clone(was)
				now[j] = block
				after, _ := encoded(t, c, now)
				for at := range n {
					got, err := c.Delta(at, j, was[j], block)
					if err != nil || len(got) != size {
						t.Fatal(k, n, at, j, size, got, err)
					}
					for x := range got {
						if before[at][x]^got[x] != after[at][x] {
							t.Fatal(k, n, at, j, size, got)
						}
					}
				}
			}
		}
	})
}

// P4.5: the product of the row's byte and the sum, for every byte that was and is
func TestDeltaOfEveryByte(t *testing.T) {
	for _, code := range [][2]int{{1, 1}, {1, 2}, {2, 3}, {3, 5}, {5, 8}} {
		k, n := code[0], code[1]
		c := made(t, k, n)
		every := make([]byte, 256)
		for x := range every {
			every[x] = byte(x)
		}
		for at := range n {
			for j := range k {
				factor := rowOf(k, at)[j]
				for value := range 256 {
					got, err := c.Delta(at, j, every, bytes.Repeat([]byte{byte(value)}, 256))
					if err != nil || len(got) != 256 {
						t.Fatal(k, n, at, j, value, got, err)
					}
					for x := range got {
						if got[x] != product(factor, byte(x^value)) {
							t.Fatal(k, n, at, j, value, x, got[x])
						}
					}
				}
			}
		}
	}
}

// P4.5: numbers just outside and far outside, and unlike lengths, alone and together
func TestDeltaRefused(t *testing.T) {
	everyCode(t, func(k, n int, c *Code) {
		wants := func(at, block int, was, now []byte) {
			t.Helper()
			got, err := c.Delta(at, block, was, now)
			if got != nil {
				t.Error(k, n, at, block, was, now, "a result beside an error:", got)
			}
			refused(t, err, "code.Delta", at, api.ErrArg)
		}
		one, two := []byte{1}, []byte{1, 2}
		outside := []int{-1, -2, n, n + 1, api.MaxN, api.MaxN + 1, 256, -256, 1 << 32, math.MaxInt, math.MinInt}
		for _, far := range outside {
			if far < 0 || far >= n {
				for j := range k {
					wants(far, j, one, one)
					wants(far, j, nil, nil)
				}
				wants(far, -1, one, one)
				wants(far, k, one, two)
			}
		}
		for at := range n {
			for _, far := range append(outside, k, k+1, n-1) {
				if far < 0 || far >= k {
					wants(at, far, one, one)
					wants(at, far, nil, nil)
					wants(at, far, one, two)
				}
			}
			for j := range k {
				wants(at, j, one, two)
				wants(at, j, two, one)
				wants(at, j, nil, one)
				wants(at, j, one, nil)
				wants(at, j, []byte{}, two)
				wants(at, j, make([]byte, 258), two)
			}
		}
	})
}

// P4.5, R4: blocks of no byte change by none.
func TestDeltaOfNoBytes(t *testing.T) {
	everyCode(t, func(k, n int, c *Code) {
		for at := range n {
			for j := range k {
				for i, pair := range [][2][]byte{{nil, nil}, {nil, {}}, {{}, nil}, {{}, {}}} {
					if got, err := c.Delta(at, j, pair[0], pair[1]); err != nil || len(got) != 0 {
						t.Error(k, n, at, j, i, got, err)
					}
				}
			}
		}
	})
}

// within lays a slice in the middle of greater memory: it has unused capacity, and memory stands before it too.
func within(b []byte) (slice, memory []byte) {
	memory = append(append([]byte{201, 202, 203}, b...), 204, 205, 206, 207)
	return memory[3 : 3+len(b)], memory
}

// allWithin lays each block so, and the list of them before a block that is not part of it.
func allWithin(blocks [][]byte) (list [][]byte, memories [][]byte) {
	list = make([][]byte, 0, len(blocks)+1)
	for _, b := range blocks {
		slice, memory := within(b)
		list, memories = append(list, slice), append(memories, memory)
	}
	beyond := append(list, []byte{9, 9, 9})
	return list, append(memories, beyond[len(blocks)])
}

// partsWithin lays each part's data so, and the list of them before a part that is not part of it.
func partsWithin(parts []api.Part) (list []api.Part, memories [][]byte) {
	list = make([]api.Part, 0, len(parts)+1)
	for _, p := range parts {
		slice, memory := within(p.Data)
		list, memories = append(list, api.Part{At: p.At, Data: slice}), append(memories, memory)
	}
	beyond := append(list, partOf(-7, 9, 9))
	return list, append(memories, beyond[len(parts)].Data)
}

// overwrite writes over all of a slice, its unused capacity too.
func overwrite(b []byte) {
	for i := range b[:cap(b)] {
		b[:cap(b)][i] ^= 0xa5
	}
}

// apart wants that no answer changes if another is written over, nor any memory that was handed in, nor an answer if
// that memory is written over.
func apart(t *testing.T, name string, answers, memories [][]byte) {
	t.Helper()
	given := cloneAll(memories)
	was := cloneAll(answers)
	for _, m := range memories {
		overwrite(m)
	}
	if !same(answers, was) {
		t.Error(name, "an answer shares memory with an argument")
	}
	for _, m := range memories {
		overwrite(m)
	}
	for i := range answers {
		others := cloneAll(answers)
		overwrite(answers[i])
		others[i] = slices.Clone(answers[i])
		if !same(answers, others) {
			t.Error(name, "answers share memory:", i)
		}
	}
	if !same(memories, given) {
		t.Error(name, "an argument shares memory with an answer")
	}
}

// R2, R5: Encode changes nothing that it is given and shares nothing with it, and its fragments share nothing.
func TestEncodeLeavesItsArguments(t *testing.T) {
	everyCode(t, func(k, n int, c *Code) {
		blocks := blocksOf(k, 5, 1)
		list, memories := allWithin(blocks)
		given := cloneAll(memories)
		fragments, err := c.Encode(list)
		if err != nil || !same(memories, given) || !same(list, blocks) || !bytes.Equal(list[:k+1][k], []byte{9, 9, 9}) {
			t.Error(k, n, "Encode changed an argument", err)
		}
		apart(t, "Encode", fragments, memories)
		clear(fragments)
		if !same(list, blocks) {
			t.Error(k, n, "the list of fragments shares memory with that of the blocks")
		}
		again, err := c.Encode(list)
		if err != nil || len(again) != n || !bytes.Equal(again[n-1], fragmentOf(n-1, blocks)) {
			t.Error(k, n, "a second Encode answers otherwise", again, err)
		}
	})
}

// R2, R5: Decode changes nothing that it is given and shares nothing with it, and its blocks share nothing.
func TestDecodeLeavesItsArguments(t *testing.T) {
	everyCode(t, func(k, n int, c *Code) {
		blocks := blocksOf(k, 5, 1)
		_, parts := encoded(t, c, blocks)
		for turn := range n {
			turned := cloneParts(append(parts[turn:len(parts):len(parts)], parts[:turn]...))
			turned = append(turned, turned[0])
			list, memories := partsWithin(turned)
			given := cloneAll(memories)
			got, err := c.Decode(list...)
			if err != nil || !same(got, blocks) {
				t.Fatal(k, n, turn, got, err)
			}
			if !same(memories, given) || !sameParts(list, turned) || !sameParts(list[:n+2][n+1:], []api.Part{partOf(-7, 9, 9)}) {
				t.Error(k, n, turn, "Decode changed an argument")
			}
			apart(t, "Decode", got, memories)
			if again, err := c.Decode(list...); err != nil || !same(again, blocks) {
				t.Error(k, n, turn, "a second Decode answers otherwise", again, err)
			}
		}
	})
}

// R2, R5: Rebuild changes nothing that it is given and shares nothing with it.
func TestRebuildLeavesItsArguments(t *testing.T) {
	everyCode(t, func(k, n int, c *Code) {
		fragments, parts := encoded(t, c, blocksOf(k, 5, 1))
		slices.Reverse(parts)
		for at := range n {
			list, memories := partsWithin(parts)
			given := cloneAll(memories)
			got, err := c.Rebuild(at, list...)
			if err != nil || !bytes.Equal(got, fragments[at]) {
				t.Fatal(k, n, at, got, err)
			}
			if !same(memories, given) || !sameParts(list, parts) {
				t.Error(k, n, at, "Rebuild changed an argument")
			}
			apart(t, "Rebuild", [][]byte{got}, memories)
			if again, err := c.Rebuild(at, list...); err != nil || !bytes.Equal(again, fragments[at]) {
				t.Error(k, n, at, "a second Rebuild answers otherwise", again, err)
			}
		}
	})
}

// R2, R5: Delta changes nothing that it is given and shares nothing with it, also if both blocks are one slice.
func TestDeltaLeavesItsArguments(t *testing.T) {
	everyCode(t, func(k, n int, c *Code) {
		for at := range n {
			for j := range k {
				was, memory := within([]byte{1, 2, 3})
				now, other := within([]byte{4, 2, 200})
				memories := [][]byte{memory, other}
				given := cloneAll(memories)
				got, err := c.Delta(at, j, was, now)
				if err != nil || !same(memories, given) {
					t.Error(k, n, at, j, "Delta changed an argument", err)
				}
				apart(t, "Delta", [][]byte{got}, memories)
				none, err := c.Delta(at, j, was, was)
				if err != nil || !bytes.Equal(none, []byte{0, 0, 0}) || !same(memories, given) {
					t.Error(k, n, at, j, "of one slice:", none, err)
				}
			}
		}
	})
}

// R2: a refusal changes nothing that was given either, and later calls answer as if it had not been.
func TestRefusalsLeaveEverything(t *testing.T) {
	everyCode(t, func(k, n int, c *Code) {
		blocks := blocksOf(k, 2, 1)
		fragments, parts := encoded(t, c, blocks)
		for i, l := range [][]api.Part{append(cloneParts(parts), partOf(n, 1, 2)), append(cloneParts(parts), partOf(0, 1)), cloneParts(parts[:k-1])} {
			list, memories := partsWithin(l)
			given := cloneAll(memories)
			_, one := c.Decode(list...)
			_, two := c.Rebuild(0, list...)
			if one == nil || two == nil || !same(memories, given) || !sameParts(list, l) {
				t.Error(k, n, i, "a refusal changed an argument", one, two)
			}
		}
		list, memories := allWithin(append(cloneAll(blocks), []byte{1}))
		given := cloneAll(memories)
		if _, err := c.Encode(list); err == nil || !same(memories, given) {
			t.Error(k, n, "a refused Encode changed an argument", err)
		}
		again, err := c.Encode(blocks)
		if err != nil || !same(again, fragments) {
			t.Error(k, n, "Encode answers otherwise afterwards", again, err)
		}
	})
}

// R4: codes that are made beside one another answer alike, and each for its own k and n.
func TestCodesAreApart(t *testing.T) {
	var codes, others []*Code
	everyCode(t, func(k, n int, c *Code) { codes = append(codes, c) })
	everyCode(t, func(k, n int, c *Code) { others = append(others, c) })
	i := 0
	for n := 1; n <= api.MaxN; n++ {
		for k := 1; k <= n; k++ {
			blocks := blocksOf(k, 3, 7)
			for _, c := range []*Code{codes[i], others[i]} {
				fragments, err := c.Encode(blocks)
				if err != nil || len(fragments) != n {
					t.Fatal(k, n, len(fragments), err)
				}
				for at, f := range fragments {
					if !bytes.Equal(f, fragmentOf(at, blocks)) {
						t.Error(k, n, at, f)
					}
				}
			}
			if codes[i] == others[i] {
				t.Error(k, n, "one code is handed out twice")
			}
			*others[i] = Code{}
			if _, err := codes[i].Encode(blocks); err != nil {
				t.Error(k, n, "a code changes with another:", err)
			}
			i++
		}
	}
}

// The chapter's example runs. Inv(2) is 142, and Mul(Inv(3), 2) is 245: 244 is 11110100 in bits, which doubled leaves
// the byte and takes the polynomial, so 11101000 and 00011101.
func TestRuns(t *testing.T) {
	c := made(t, 2, 3)
	third := []byte{142 ^ 245}
	fragments, err := c.Encode([][]byte{{1}, {2}})
	if err != nil || !same(fragments, [][]byte{{1}, {2}, third}) {
		t.Error("Encode tells", fragments, err)
	}
	blocks, err := c.Decode(partOf(1, 2), partOf(2, third...))
	if err != nil || !same(blocks, [][]byte{{1}, {2}}) {
		t.Error("Decode tells", blocks, err)
	}
	none, err := New(3, 2)
	if none != nil {
		t.Error("New(3, 2) makes a code")
	}
	refused(t, err, "code.New", 0, api.ErrArg)
}
