package tape

import (
	"bytes"
	"math"
	"slices"
	"testing"

	"stave/api"
)

// P14.1: for each configuration that is right, K times 108
func TestRoom(t *testing.T) {
	for n := 1; n <= 8; n++ {
		for k := 1; k <= n; k++ {
			for _, c := range []api.Config{config(k, n, 1, 1), config(k, n, 64, 4), {Id: math.MaxInt32, K: k, N: n, Stripes: 7, Slots: 2}} {
				if got := Room(c); got != roomOf(k) {
					t.Errorf("Room of %v is %d, want %d", c, got, roomOf(k))
				}
			}
		}
	}
}

// wrongKs tells numbers of blocks that no stripe has.
func wrongKs() []int {
	return []int{0, -1, 9, -2, -8, 10, 255, 256, 257, 1 << 32, 1<<32 + 1, -1 << 32, 1 << 60, 1<<62 + 1, math.MaxInt, math.MinInt, math.MinInt + 1}
}

// P14.1, P14.2: a configuration with a K that can't be has room for nothing.
func TestRoomOfWrongK(t *testing.T) {
	for _, k := range wrongKs() {
		c := config(k, 8, 4, 2)
		if got := Room(c); got != 0 {
			t.Errorf("Room of K %d is %d", k, got)
		}
		for _, l := range [][][]byte{nil, texts(""), texts("a"), texts("a", "bc"), {some(106, 1)}, {some(900, 1)}} {
			if got := Fill(c, l); got != nil {
				t.Errorf("Fill of K %d is %d blocks", k, len(got))
			}
		}
	}
	if Room(api.Config{}) != 0 || Fill(api.Config{}, texts("a")) != nil {
		t.Error("the zero Config has room")
	}
}

// fills wants Fill to tell the blocks of these entries, or nil if they don't fit, and Empty to tell the entries again.
func fills(t *testing.T, k int, l [][]byte, fits bool) {
	t.Helper()
	was := copied(l)
	got := Fill(ofK(k), l)
	if !fits {
		if got != nil {
			t.Fatalf("K %d: Fill of %d entries is %d blocks", k, len(l), len(got))
		}
		return
	}
	if !slices.Equal(got, filled(k, was)) {
		t.Fatalf("K %d: Fill of %d entries is % x, want % x", k, len(l), bytesOf(got), bytesOf(filled(k, was)))
	}
	if back := Empty(got); !alike(back, was) || !alike(l, was) {
		t.Fatalf("K %d: Empty is %q, want %q", k, back, was)
	}
}

// P14.2: Fill written out
func TestFillWrittenOut(t *testing.T) {
	seven := []byte{7, 7, 7, 7, 7, 7, 7}
	long := bytes.Repeat([]byte{5}, 300)
	for name, x := range map[string]struct {
		k    int
		l    [][]byte
		want []byte
	}{
		"one of one byte":        {1, [][]byte{{9}}, []byte{1, 0, 9}},
		"one of one byte 0":      {1, [][]byte{{0}}, []byte{1, 0, 0}},
		"two":                    {1, [][]byte{{9, 8}, {0, 1, 0}}, []byte{2, 0, 9, 8, 3, 0, 0, 1, 0}},
		"two that are alike":     {1, [][]byte{seven, seven}, []byte{7, 0, 7, 7, 7, 7, 7, 7, 7, 7, 0, 7, 7, 7, 7, 7, 7, 7}},
		"all bits":               {1, [][]byte{{255, 255}, {255}}, []byte{2, 0, 255, 255, 1, 0, 255}},
		"one in two blocks":      {2, [][]byte{{1, 2, 3}}, []byte{3, 0, 1, 2, 3}},
		"one in eight blocks":    {8, [][]byte{{1, 2, 3}}, []byte{3, 0, 1, 2, 3}},
		"a length over 255":      {3, [][]byte{long, {4}}, slices.Concat([]byte{44, 1}, long, []byte{1, 0, 4})},
		"a length over 511":      {6, [][]byte{append(long, long...), {4}}, slices.Concat([]byte{88, 2}, long, long, []byte{1, 0, 4})},
		"what looks like a list": {1, [][]byte{{1, 0, 9}, {2, 0}}, []byte{3, 0, 1, 0, 9, 2, 0, 2, 0}},
	} {
		got := Fill(ofK(x.k), x.l)
		want := append(x.want, make([]byte, roomOf(x.k)-len(x.want))...)
		if len(got) != x.k || !bytes.Equal(bytesOf(got), want) {
			t.Errorf("%s: Fill is %d blocks, % x, want % x", name, len(got), bytesOf(got), want)
		}
		if back := Empty(got); !alike(back, x.l) {
			t.Errorf("%s: Empty is %q, want %q", name, back, x.l)
		}
	}
}

// P14.2: an entry goes on in the next block, and so does its length
func TestFillAcrossBlocks(t *testing.T) {
	for ahead := 100; ahead <= 106; ahead++ {
		l := [][]byte{bytes.Repeat([]byte{'x'}, ahead), []byte("bcdefgh"), bytes.Repeat([]byte{'y'}, 90)}
		got := Fill(ofK(2), l)
		if len(got) != 2 {
			t.Fatalf("%d ahead: Fill is %d blocks", ahead, len(got))
		}
		want := append(bytes.Repeat([]byte{'x'}, ahead), 7, 0, 'b', 'c', 'd', 'e', 'f', 'g', 'h', 90, 0)
		for i, b := range want {
			block, at := 0, 2+i
			if at >= 108 {
				block, at = 1, at-108
			}
			if got[block][at] != b {
				t.Errorf("%d ahead: byte %d of block %d is %d, want %d", ahead, at, block, got[block][at], b)
			}
		}
		if back := Empty(got); !alike(back, l) {
			t.Errorf("%d ahead: Empty is %q, want %q", ahead, back, l)
		}
	}
	// The length of the second entry, 300, is 44 in the last byte of block 0 and 1 in the first one of block 1.
	l := [][]byte{some(105, 1), some(300, 2)}
	got := Fill(ofK(4), l)
	if len(got) != 4 || got[0][106] != l[0][104] || got[0][107] != 44 || got[1][0] != 1 || got[1][1] != l[1][0] || got[3][85] != 0 {
		t.Errorf("Fill is % x", bytesOf(got))
	}
	if back := Empty(got); !alike(back, l) {
		t.Errorf("Empty is %q, want %q", back, l)
	}
	// Entries that end with a block, and begin with the next one
	l = [][]byte{some(106, 1), some(106, 2), some(106, 3)}
	got = Fill(ofK(3), l)
	for i, b := range got {
		if b[0] != 106 || b[1] != 0 || !bytes.Equal(b[2:], l[i]) {
			t.Errorf("block %d is % x", i, b)
		}
	}
}

// P14.2: one entry of each number of bytes, for each K
func TestFillOne(t *testing.T) {
	for k := 1; k <= 8; k++ {
		for n := range roomOf(k) + 4 {
			fills(t, k, [][]byte{some(n, k)}, 1 <= n && n <= roomOf(k)-2)
			fills(t, k, [][]byte{make([]byte, n)}, 1 <= n && n <= roomOf(k)-2)
		}
		for _, n := range []int{65535, 65536, 65537, 65536 + 100, 1 << 20, 1<<20 + 1} {
			fills(t, k, [][]byte{some(n, k)}, false)
		}
	}
}

// P14.2: two entries of each number of bytes for K 1, and three of some
func TestFillTwo(t *testing.T) {
	for n := range 110 {
		for m := range 110 {
			fits := n > 0 && m > 0 && n+m+4 <= 108
			fills(t, 1, [][]byte{some(n, m), some(m, n)}, fits)
		}
		for m := 1; m < 30; m++ {
			fits := n > 0 && n+m+m/2+1+6 <= 108
			fills(t, 1, [][]byte{some(n, m), some(m, n), some(m/2+1, 3)}, fits)
		}
	}
}

// P14.2: entries that need just what there is room for, one byte less, two less and more, and one more, for each K
func TestFillToTheBrim(t *testing.T) {
	for k := 1; k <= 8; k++ {
		room := roomOf(k)
		for _, ahead := range [][][]byte{nil, {some(1, 1)}, {some(1, 1), some(2, 2)}, {some(60, 3)}, {some(20, 1), some(1, 7), some(30, 2)}} {
			taken := len(written(ahead))
			for left := -3; left <= 6; left++ {
				l := append(copied(ahead), some(room-taken-2-left, 9))
				fills(t, k, l, left >= 0)
				// What is left has room for one more entry if that is at least three bytes.
				if left >= 0 {
					fills(t, k, append(copied(l), some(1, 3)), left >= 3)
					fills(t, k, append(copied(l), some(2, 3)), left >= 4)
					fills(t, k, append(copied(l), some(max(left-2, 1), 3)), left >= 3)
				}
			}
		}
	}
}

// P14.2: many entries of one byte each: K * 36 of them need just the room that there is.
func TestFillMany(t *testing.T) {
	for k := 1; k <= 8; k++ {
		for many := range 36*k + 3 {
			var l [][]byte
			for i := range many {
				l = append(l, []byte{byte(i)})
			}
			fills(t, k, l, many > 0 && many <= 36*k)
		}
	}
	var l [][]byte
	for range 1 << 16 {
		l = append(l, []byte{1})
	}
	fills(t, 8, l, false)
}

// P14.2: an entry of no bytes, at each place among others, with room for it and without; nil and empty alike
func TestFillEmptyEntry(t *testing.T) {
	for k := 1; k <= 8; k++ {
		for many := 1; many < 6; many++ {
			for at := range many {
				for _, nothing := range [][]byte{nil, {}, make([]byte, 0, 9)} {
					var l [][]byte
					for i := range many {
						l = append(l, some(1+i, i))
					}
					fills(t, k, l, true)
					l[at] = nothing
					fills(t, k, l, false)
				}
			}
		}
		for _, l := range [][][]byte{nil, {}, make([][]byte, 0, 5), {nil}, {{}}, {nil, nil}, make([][]byte, 54*k), make([][]byte, 54*k+1), {some(roomOf(k)-2, 1), nil}, {nil, some(roomOf(k)-2, 1)}} {
			fills(t, k, l, false)
		}
	}
}

// P14.2: what else a configuration has does not count.
func TestFillAsksForKAlone(t *testing.T) {
	l := texts("some", "entries")
	for _, c := range []api.Config{config(3, 3, 1, 1), config(3, 8, 64, 4), plain()} {
		if got := Fill(c, l); !slices.Equal(got, filled(c.K, l)) {
			t.Errorf("Fill for %v is % x", c, bytesOf(got))
		}
	}
}

// empties wants Empty to tell just these entries.
func empties(t *testing.T, name string, l []api.Block, want ...[]byte) {
	t.Helper()
	was := slices.Clone(l)
	if got := Empty(l); !alike(got, want) {
		t.Errorf("%s: Empty is % x, want % x", name, got, want)
	}
	if !slices.Equal(l, was) {
		t.Errorf("%s: Empty changes the blocks", name)
	}
}

// P14.3: Empty written out, of blocks that no Fill made
func TestEmptyWrittenOut(t *testing.T) {
	var ones, twos api.Block
	for i := range ones {
		ones[i], twos[i] = 1, 2
	}
	empties(t, "nil", nil)
	empties(t, "no blocks", []api.Block{})
	for k := 1; k <= 12; k++ {
		empties(t, "all noughts", inBlocks(k))
		empties(t, "a length of 0 ahead of an entry", inBlocks(k, 0, 0, 1, 0, 9))
		empties(t, "a length of 0 behind an entry", inBlocks(k, 1, 0, 9, 0, 0, 1, 0, 8), []byte{9})
		empties(t, "bytes behind the end", inBlocks(k, 1, 0, 9, 0, 0, 7, 7, 7, 7), []byte{9})
		empties(t, "an entry of noughts", inBlocks(k, 3, 0, 0, 0, 0, 1, 0, 8), []byte{0, 0, 0}, []byte{8})
		empties(t, "a length beyond all", inBlocks(k, 1, 0, 9, 255, 255, 8), []byte{9})
		empties(t, "a first length beyond all", inBlocks(k, 255, 255, 8))
	}
	// 0x0101 is 257, and 0x0202 is 514.
	empties(t, "ones", []api.Block{ones})
	empties(t, "twos", []api.Block{twos, twos, twos})
	empties(t, "ones with room", []api.Block{ones, ones, ones}, bytes.Repeat([]byte{1}, 257))
	empties(t, "twos with room", []api.Block{twos, twos, twos, twos, twos}, bytes.Repeat([]byte{2}, 514))
	empties(t, "a length in the high byte", inBlocks(3, 0, 1, 9), append([]byte{9}, make([]byte, 255)...))
	empties(t, "a length in the high byte without room", inBlocks(2, 0, 1, 9))
	empties(t, "a length of 0 in the low byte at the end", inBlocks(1, 104, 0), make([]byte, 104))
}

// P14.3: the first length is each number, for K 1 to 9: it is an entry's if it is no greater than what follows.
func TestEmptyEachLength(t *testing.T) {
	for k := 1; k <= 9; k++ {
		b := some(108*k, k)
		l := inBlocks(k, b...)
		for length := range 1 << 16 {
			l[0][0], l[0][1] = byte(length), byte(length>>8)
			got := Empty(l)
			fits := 1 <= length && length <= 108*k-2
			if fits && (len(got) == 0 || !bytes.Equal(got[0], b[2:2+length])) || !fits && len(got) > 0 {
				t.Fatalf("K %d: Empty with the length %d is %d entries", k, length, len(got))
			}
		}
	}
}

// P14.3: an entry behind which so many bytes remain, and what these say: fewer than two end the sequence.
func TestEmptyAtTheEnd(t *testing.T) {
	for k := 1; k <= 8; k++ {
		for left := range 8 {
			entry := some(108*k-2-left, k)
			ahead := written([][]byte{entry})
			for low := range 256 {
				for _, high := range []byte{0, 1, 2, 255} {
					b := append(slices.Clone(ahead), []byte{byte(low), high, 3, 0, 5, 6, 7, 8}[:left]...)
					want := [][]byte{entry}
					if left > 2 && high == 0 && 1 <= low && low <= left-2 {
						// What remains behind that is never a length that has room: 0 and 5 say 1280.
						want = append(want, []byte{3, 0, 5, 6, 7, 8}[:low])
					}
					if got := Empty(inBlocks(k, b...)); !alike(got, want) {
						t.Fatalf("K %d: Empty with %d bytes left, %d and %d, is %d entries, want %d", k, left, low, high, len(got), len(want))
					}
				}
			}
		}
	}
}

// P14.3: blocks far beyond a stripe's: the greatest length that two bytes can say, one byte too few for it, and another
// entry behind it
func TestEmptyOfManyBlocks(t *testing.T) {
	const blocks = 607 // 65556 bytes
	entry := some(65535, 3)
	ahead := some(106, 1)
	whole := append([]byte{255, 255}, entry...)
	empties(t, "alone", inBlocks(blocks, whole...), entry)
	empties(t, "behind it another one", inBlocks(blocks, append(whole, 1, 0, 9)...), entry, []byte{9})
	empties(t, "another one ahead of it", inBlocks(1+blocks, slices.Concat([]byte{106, 0}, ahead, whole)...), ahead, entry)
	empties(t, "too few blocks", inBlocks(606, whole[:65448]...))
	// An entry of 17 bytes ahead of it leaves just 65537 of the 65556.
	for n := 10; n < 24; n++ {
		want := [][]byte{some(n, 2)}
		b := append(written(want), 255, 255)
		if n <= 17 {
			want = append(want, entry)
		}
		b = append(b, entry...)
		empties(t, "some ahead", inBlocks(blocks, b[:min(len(b), 65556)]...), want...)
	}
	var many [][]byte
	for i := range 36 * 700 {
		many = append(many, []byte{byte(i)})
	}
	empties(t, "many", inBlocks(700, written(many)...), many...)
}

// emptied tells the entries as the chapter says it, with an index that goes on.
func emptied(b []byte) (l [][]byte) {
	at := 0
	for len(b)-at >= 2 {
		length := int(b[at]) + 256*int(b[at+1])
		if length == 0 || length > len(b)-at-2 {
			return l
		}
		l = append(l, b[at+2:at+2+length])
		at += 2 + length
	}
	return l
}

// P14.2, P14.3: arbitrary bytes: Empty tells what they say, and Fill of that gives as many of the bytes again.
func TestEmptyOfArbitraryBytes(t *testing.T) {
	state := uint32(7)
	number := func(n int) int {
		state = state*1664525 + 1013904223
		return int(state>>12) % n
	}
	for range 20000 {
		k := 1 + number(8)
		b := make([]byte, 108*k)
		at, most := 0, 1+number(60)
		for at+2 < len(b) {
			length := number(most)
			b[at], b[at+1] = byte(length), byte(number(33)/32)
			for i := at + 2; i < min(at+2+length, len(b)); i++ {
				b[i] = byte(number(256))
			}
			at += 2 + length
		}
		want := emptied(b)
		got := Empty(inBlocks(k, b...))
		if !alike(got, want) {
			t.Fatalf("Empty of % x is % x, want % x", b, got, want)
		}
		fills(t, k, got, len(got) > 0)
		if again := written(got); !bytes.Equal(again, b[:len(again)]) {
			t.Fatalf("Fill of what Empty told is % x, want % x", again, b)
		}
	}
}

// P14.2, P14.3: no two lists of entries have the same blocks; lists that are alike have the same.
func TestOneForm(t *testing.T) {
	seen := map[api.Block][][]byte{}
	var lists [][][]byte
	pieces := texts("a", "b", "\x00", "\x01\x00", "ab", "\x01\x00a", "\x00\x00", "a\x01\x00b")
	for _, x := range pieces {
		lists = append(lists, [][]byte{x})
		for _, y := range pieces {
			lists = append(lists, [][]byte{x, y})
			for _, z := range pieces {
				lists = append(lists, [][]byte{x, y, z})
			}
		}
	}
	for _, l := range lists {
		b := Fill(ofK(1), l)
		if again := Fill(ofK(1), copied(l)); !slices.Equal(b, again) {
			t.Errorf("two Fills of %q are unlike", l)
		}
		if was, found := seen[b[0]]; found {
			t.Errorf("%q and %q have the same blocks", l, was)
		}
		seen[b[0]] = l
	}
}

// spoil writes other bytes to all that a slice has, also to what it has unused.
func spoil(b []byte) {
	b = b[:cap(b)]
	for i := range b {
		b[i] ^= 0x5a
	}
}

// P14.2: Fill keeps and changes nothing of what it was given, also nothing of what a slice has unused.
func TestFillLeavesItsArguments(t *testing.T) {
	for k := 1; k <= 8; k++ {
		memory := some(60, 1)
		list := [][]byte{memory[:5], memory[10:12], memory[20:55], memory[3:4], some(9, 9)}
		given := list[:4]
		want := filled(k, copied(given))
		got := Fill(ofK(k), given)
		other := Fill(ofK(k), given)
		if !bytes.Equal(memory, some(60, 1)) || !bytes.Equal(list[4], some(9, 9)) || len(list[0]) != 5 || len(list[3]) != 1 {
			t.Errorf("K %d: Fill changes what it was given", k)
		}
		spoil(memory)
		list[0], list[1] = nil, nil
		if !slices.Equal(got, want) {
			t.Errorf("K %d: Fill keeps what it was given", k)
		}
		spoiled := got[:cap(got)]
		for i := range spoiled {
			spoil(spoiled[i][:])
		}
		if !slices.Equal(other, want) {
			t.Errorf("K %d: two Fills share memory", k)
		}
	}
	if got := Fill(ofK(1), [][]byte{some(1, 1), make([]byte, 200)[:0]}); got != nil {
		t.Error("Fill reads what a slice has unused")
	}
}

// apart wants no two entries to share memory, and none of them what one of the others has unused.
func apart(t *testing.T, name string, l [][]byte, want [][]byte) {
	t.Helper()
	for i := range l {
		spoil(l[i])
		for j := range l {
			if j > i && !bytes.Equal(l[j], want[j]) {
				t.Fatalf("%s: entries %d and %d share memory", name, i, j)
			}
		}
	}
}

// P14.3: Empty tells new memory, and keeps and changes nothing of what it was given.
func TestEmptyIsNewMemory(t *testing.T) {
	for k := 1; k <= 8; k++ {
		want := [][]byte{some(3, 1), some(1, 2), some(33, 3), some(9, 4), some(2, 5)}
		memory := append(filled(k, want), filled(2, texts("unused"))...)
		was := slices.Clone(memory)
		blocks := memory[:k]
		got, other := Empty(blocks), Empty(blocks)
		if !alike(got, want) || !slices.Equal(memory, was) {
			t.Fatalf("K %d: Empty is %q, or changes the blocks", k, got)
		}
		apart(t, "Empty", got, want)
		if !slices.Equal(memory, was) || !alike(other, want) {
			t.Errorf("K %d: what Empty told is not new memory", k)
		}
		full := got[:cap(got)]
		clear(full)
		if !alike(other, want) {
			t.Errorf("K %d: two Emptys share a list", k)
		}
		for i := range memory {
			spoil(memory[i][:])
		}
		if !alike(other, want) || !alike(Empty(was[:k]), want) {
			t.Errorf("K %d: Empty keeps what it was given", k)
		}
	}
}
