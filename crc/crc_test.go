package crc

import (
	"bytes"
	"slices"
	"testing"
)

// bitByBit goes on from a value with the bytes of b, without a table, as P5.1 says it.
func bitByBit(value uint32, b []byte) uint32 {
	for _, next := range b {
		value ^= uint32(next)
		for range 8 {
			out := value % 2
			value /= 2
			value ^= out * 0x82F63B78
		}
	}
	return value
}

// sumOf tells the checksum of b as P5.1 says it.
func sumOf(b []byte) uint32 { return bitByBit(0xFFFFFFFF, b) ^ 0xFFFFFFFF }

// prefixOf tells four bytes whose Sum is c: it goes the 32 steps back from the value behind them. The polynomial alone
// can have set the highest bit, so this bit tells whether a 1 was shifted out.
func prefixOf(c uint32) []byte {
	value := c ^ 0xFFFFFFFF
	for range 32 {
		if value&0x80000000 != 0 {
			value = (value^0x82F63B78)<<1 | 1
		} else {
			value <<= 1
		}
	}
	return lowFirst(value ^ 0xFFFFFFFF)
}

// lowFirst tells the four bytes of a number, least significant byte first.
func lowFirst(n uint32) []byte { return []byte{byte(n), byte(n >> 8), byte(n >> 16), byte(n >> 24)} }

// textOf tells so many bytes of all kinds; the salt makes others of them.
func textOf(size, salt int) []byte {
	b := make([]byte, size)
	for i := range b {
		b[i] = byte(i*i*i + 31*i + 101*salt + i*salt + i/256)
	}
	return b
}

// allBytes tells the bytes from 0 to 255.
func allBytes() []byte {
	b := make([]byte, 256)
	for i := range b {
		b[i] = byte(i)
	}
	return b
}

// The chapter's example runs.
func TestRuns(t *testing.T) {
	table := Make()
	if got := table.Sum([]byte("123456789")); got != 0xE3069283 {
		t.Errorf("Sum of 123456789 is %08X", got)
	}
	if got := table.Sum(nil); got != 0 {
		t.Errorf("Sum of nil is %08X", got)
	}
	if got := table.Sum([]byte{}); got != 0 {
		t.Errorf("Sum of no bytes is %08X", got)
	}
}

// P5.1: checksums that are known from elsewhere, so that nothing of this project's has a part in them.
func TestSumOfKnownTexts(t *testing.T) {
	table := Make()
	up := allBytes()[:32]
	down := slices.Clone(up)
	slices.Reverse(down)
	for _, c := range []struct {
		name string
		b    []byte
		want uint32
	}{
		{"byte 0", []byte{0}, 0x527D5351},
		{"byte 255", []byte{255}, 0xFF000000},
		{"a", []byte("a"), 0xC1D04330},
		{"abc", []byte("abc"), 0x364B3FB7},
		{"a sentence", []byte("The quick brown fox jumps over the lazy dog"), 0x22620404},
		{"32 bytes 0", make([]byte, 32), 0x8A9136AA},
		{"32 bytes 255", bytes.Repeat([]byte{255}, 32), 0x62A8AB43},
		{"0 to 31", up, 0x46DD794E},
		{"31 to 0", down, 0x113FDB5C},
		{"four bytes 255", []byte{255, 255, 255, 255}, 0xFFFFFFFF},
	} {
		if got := table.Sum(c.b); got != c.want {
			t.Errorf("Sum of %s is %08X, want %08X", c.name, got, c.want)
		}
	}
}

// P5.1: a single byte of every value, and every pair of bytes
func TestSumOfEveryByte(t *testing.T) {
	table := Make()
	for _, a := range allBytes() {
		if got, want := table.Sum([]byte{a}), sumOf([]byte{a}); got != want {
			t.Errorf("Sum of byte %d is %08X, want %08X", a, got, want)
		}
		for _, b := range allBytes() {
			if got, want := table.Sum([]byte{a, b}), sumOf([]byte{a, b}); got != want {
				t.Fatalf("Sum of bytes %d, %d is %08X, want %08X", a, b, got, want)
			}
		}
	}
}

// P5.1: texts of every length up to some hundred, among them those of one byte again and again
func TestSumOfEveryLength(t *testing.T) {
	table := Make()
	for size := range 700 {
		for salt := range 5 {
			b := textOf(size, salt)
			if got, want := table.Sum(b), sumOf(b); got != want {
				t.Fatalf("Sum of %d bytes, salt %d, is %08X, want %08X", size, salt, got, want)
			}
		}
		for _, again := range []byte{0, 1, 128, 255} {
			b := bytes.Repeat([]byte{again}, size)
			if got, want := table.Sum(b), sumOf(b); got != want {
				t.Fatalf("Sum of %d bytes %d is %08X, want %08X", size, again, got, want)
			}
		}
	}
}

// P5.1: a long text, beyond what two bytes can count
func TestSumOfManyBytes(t *testing.T) {
	table := Make()
	for _, size := range []int{65535, 65536, 65537, 1 << 20} {
		b := textOf(size, 9)
		if got, want := table.Sum(b), sumOf(b); got != want {
			t.Errorf("Sum of %d bytes is %08X, want %08X", size, got, want)
		}
	}
}

// P5.2: every way to part a text in two, either of which may be empty
func TestOnOfTwoParts(t *testing.T) {
	table := Make()
	for _, size := range []int{0, 1, 2, 3, 4, 5, 8, 9, 64, 124, 300} {
		b := textOf(size, size)
		want := sumOf(b)
		for at := range size + 1 {
			if got := table.On(table.Sum(b[:at]), b[at:]); got != want {
				t.Errorf("%d bytes, parted at %d: %08X, want %08X", size, at, got, want)
			}
			if got := table.On(sumOf(b[:at]), b[at:]); got != want {
				t.Errorf("%d bytes, parted at %d, from the right Sum: %08X, want %08X", size, at, got, want)
			}
		}
	}
}

// P5.2: texts in many parts, empty ones between them
func TestOnOfManyParts(t *testing.T) {
	table := Make()
	b := textOf(257, 3)
	want := sumOf(b)
	for size := 1; size <= len(b)+1; size++ {
		var c uint32
		for part := range slices.Chunk(b, size) {
			c = table.On(c, nil)
			c = table.On(c, part)
			c = table.On(c, []byte{})
		}
		if c != want {
			t.Errorf("parts of %d bytes: %08X, want %08X", size, c, want)
		}
	}
	var c uint32
	for at, size := 0, 0; at < len(b); size++ {
		end := min(at+size, len(b))
		c = table.On(c, b[at:end])
		if c != sumOf(b[:end]) {
			t.Errorf("growing parts, up to %d: %08X, want %08X", end, c, sumOf(b[:end]))
		}
		at = end
	}
}

// P5.2: every way to part a text in three
func TestOnOfThreeParts(t *testing.T) {
	table := Make()
	b := textOf(40, 5)
	want := sumOf(b)
	for end := range len(b) + 1 {
		for at := range end + 1 {
			if got := table.On(table.On(table.Sum(b[:at]), b[at:end]), b[end:]); got != want {
				t.Errorf("parted at %d and %d: %08X, want %08X", at, end, got, want)
			}
		}
	}
}

// P5.2: On of 0 and any bytes is their Sum, since the Sum of no bytes is 0.
func TestOnOfZero(t *testing.T) {
	table := Make()
	for size := range 300 {
		b := textOf(size, 1)
		if got, want := table.On(0, b), sumOf(b); got != want || got != table.Sum(b) {
			t.Fatalf("On of 0 and %d bytes is %08X, want %08X; Sum %08X", size, got, want, table.Sum(b))
		}
	}
	for _, a := range allBytes() {
		if got, want := table.On(0, []byte{a}), sumOf([]byte{a}); got != want {
			t.Errorf("On of 0 and byte %d is %08X, want %08X", a, got, want)
		}
	}
	if table.On(0, nil) != 0 || table.On(0, []byte{}) != 0 {
		t.Error("On of 0 and no bytes:", table.On(0, nil), table.On(0, []byte{}))
	}
}

// someSums tells numbers of all kinds: the ends, each with one bit set or one bit clear, and others.
func someSums() []uint32 {
	sums := []uint32{0, 0xFFFFFFFF, 0x82F63B78, 0x7D09C487, 0x0000FFFF, 0xFFFF0000, 0x00FF00FF, 0xE3069283}
	for bit := range 32 {
		sums = append(sums, 1<<bit, ^uint32(1<<bit))
	}
	for i := range uint32(300) {
		sums = append(sums, i*0x9E3779B1+i)
	}
	return sums
}

// P5.2: each number is the Sum of some bytes, so On has an answer for each.
func TestOnOfAnySum(t *testing.T) {
	table := Make()
	for _, c := range someSums() {
		prefix := prefixOf(c)
		if table.Sum(prefix) != c {
			t.Fatalf("Sum of % X is %08X, want %08X", prefix, table.Sum(prefix), c)
		}
		if got := table.On(c, nil); got != c {
			t.Errorf("On of %08X and no bytes is %08X", c, got)
		}
		if got := table.On(c, []byte{}); got != c {
			t.Errorf("On of %08X and empty bytes is %08X", c, got)
		}
		for size := range 20 {
			b := textOf(size, 7)
			if got, want := table.On(c, b), sumOf(slices.Concat(prefix, b)); got != want {
				t.Errorf("On of %08X and %d bytes is %08X, want %08X", c, size, got, want)
			}
		}
		for _, a := range allBytes() {
			if got, want := table.On(c, []byte{a}), bitByBit(^c, []byte{a})^0xFFFFFFFF; got != want {
				t.Fatalf("On of %08X and byte %d is %08X, want %08X", c, a, got, want)
			}
		}
	}
}

// followed tells bytes followed by their Sum.
func followed(table *Table, b []byte) []byte { return slices.Concat(b, lowFirst(table.Sum(b))) }

// gap tells how the Sum of the bytes differs from the one that follows them: 0 if it equals it.
func gap(table *Table, all []byte) uint32 {
	end := len(all) - 4
	told := uint32(all[end]) | uint32(all[end+1])<<8 | uint32(all[end+2])<<16 | uint32(all[end+3])<<24
	return table.Sum(all[:end]) ^ told
}

// texts tells those whose changes are looked for: some are short, so that a change reaches into the Sum, and one is as
// long as what a sector holds beside its Sum.
func texts() [][]byte {
	list := [][]byte{nil, {0}, {255}, []byte("123456789"), make([]byte, 16), bytes.Repeat([]byte{255}, 16)}
	for size := range 8 {
		list = append(list, textOf(size, 2))
	}
	return append(list, textOf(124, 4))
}

// P5.3: what is not changed is still followed by its Sum.
func TestUnchanged(t *testing.T) {
	table := Make()
	for _, b := range texts() {
		if gap(table, followed(table, b)) != 0 {
			t.Error("not followed by its Sum:", b)
		}
	}
}

// P5.3: each byte turned by every value at every place, those of the Sum among them
func TestOneByteTurned(t *testing.T) {
	table := Make()
	for _, b := range texts() {
		all := followed(table, b)
		for at := range all {
			for x := 1; x < 256; x++ {
				all[at] ^= byte(x)
				if gap(table, all) == 0 {
					t.Errorf("%d bytes, byte %d turned by %d: not noticed", len(b), at, x)
				}
				all[at] ^= byte(x)
			}
		}
	}
}

// P5.3: each two consecutive bytes turned by every two values
func TestTwoBytesTurned(t *testing.T) {
	table := Make()
	for _, b := range [][]byte{nil, {77}, []byte("123456789")} {
		all := followed(table, b)
		for at := range len(all) - 1 {
			for x := 1; x < 1<<16; x++ {
				all[at] ^= byte(x)
				all[at+1] ^= byte(x >> 8)
				if gap(table, all) == 0 {
					t.Fatalf("%d bytes, turned by %04X at %d: not noticed", len(b), x, at)
				}
				all[at] ^= byte(x)
				all[at+1] ^= byte(x >> 8)
			}
		}
	}
}

// turns tells ways to turn a run of so many bytes, of which each turns its first byte and its last one.
func turns(size int) [][]byte {
	var list [][]byte
	for salt := range 60 {
		turn := textOf(size, salt)
		turn[0] |= byte(1 + salt%200)
		turn[size-1] |= byte(1 << (salt % 8))
		list = append(list, turn)
	}
	ends := make([]byte, size)
	ends[0], ends[size-1] = 1, 128
	list = append(list, ends, bytes.Repeat([]byte{255}, size), bytes.Repeat([]byte{1}, size), bytes.Repeat([]byte{128}, size))
	for from := range 5 - size {
		list = append(list, lowFirst(0x82F63B78)[from:from+size], lowFirst(0x1EDC6F41)[from:from+size])
	}
	return list
}

// P5.3: each run of two, three and four consecutive bytes turned in several ways, and set to other bytes
func TestRunsOfBytesTurned(t *testing.T) {
	table := Make()
	for _, b := range texts() {
		all := followed(table, b)
		for size := 2; size <= 4; size++ {
			for at := range len(all) - size + 1 {
				for _, turn := range turns(size) {
					turned, set := slices.Clone(all), slices.Clone(all)
					for i, x := range turn {
						turned[at+i] ^= x
					}
					copy(set[at:], turn)
					if gap(table, turned) == 0 {
						t.Errorf("%d bytes, turned by % X at %d: not noticed", len(b), turn, at)
					}
					if gap(table, set) == 0 && !bytes.Equal(set, all) {
						t.Errorf("%d bytes, set to % X at %d: not noticed", len(b), turn, at)
					}
				}
			}
		}
	}
}

// rank tells how many of the numbers are independent: none of these is an exclusive or of others.
func rank(numbers []uint32) int {
	found := 0
	for bit := range 32 {
		i := slices.IndexFunc(numbers, func(n uint32) bool { return n>>bit&1 == 1 })
		if i < 0 {
			continue
		}
		found++
		pivot := numbers[i]
		for j, n := range numbers {
			if n>>bit&1 == 1 {
				numbers[j] = n ^ pivot
			}
		}
	}
	return found
}

// P5.3: the gap of a change is the exclusive or of the gaps of its single bits. Since those of 32 consecutive bits are
// independent, no change of four consecutive bytes out of the 2^32 - 1 has the gap 0.
func TestEveryChangeOfFourBytes(t *testing.T) {
	table := Make()
	for _, b := range texts() {
		all := followed(table, b)
		for at := range len(all) - 3 {
			var gaps []uint32
			for bit := range 32 {
				turned := slices.Clone(all)
				turned[at+bit/8] ^= 1 << (bit % 8)
				gaps = append(gaps, gap(table, turned))
			}
			if got := rank(gaps); got != 32 {
				t.Errorf("%d bytes, at %d: so many bits are independent: %d", len(b), at, got)
			}
		}
	}
}

// R2, R5: the bytes stay, and so does the memory around them; none of that memory is read, its unused capacity neither.
func TestArgumentsStay(t *testing.T) {
	table := Make()
	for start := range 12 {
		for end := start; end <= 12; end++ {
			for _, around := range []byte{0, 1, 255} {
				memory := bytes.Repeat([]byte{around}, 20)
				copy(memory[start:end], textOf(12, 6)[start:end])
				was := slices.Clone(memory)
				b := memory[start:end]
				alone := slices.Clone(b)
				if got, want := table.Sum(b), sumOf(alone); got != want {
					t.Errorf("Sum of bytes %d to %d is %08X, want %08X", start, end, got, want)
				}
				if got, want := table.On(0x1234567, b), bitByBit(^uint32(0x1234567), alone)^0xFFFFFFFF; got != want {
					t.Errorf("On of bytes %d to %d is %08X, want %08X", start, end, got, want)
				}
				if !bytes.Equal(memory, was) {
					t.Errorf("bytes %d to %d: memory became %v", start, end, memory)
				}
			}
		}
	}
}

// R2: nothing of the bytes is kept: the same slice with other bytes in it has the Sum of these.
func TestNothingIsKept(t *testing.T) {
	table := Make()
	b := make([]byte, 9)
	for salt := range 50 {
		copy(b, textOf(9, salt))
		if got, want := table.Sum(b), sumOf(b); got != want {
			t.Fatalf("salt %d: Sum is %08X, want %08X", salt, got, want)
		}
		copy(b, textOf(9, salt+1))
		if got, want := table.On(5, b), bitByBit(^uint32(5), b)^0xFFFFFFFF; got != want {
			t.Fatalf("salt %d: On is %08X, want %08X", salt, got, want)
		}
	}
}

// answers asks a table for sums of all kinds.
func answers(table *Table) (list []uint32) {
	for _, a := range allBytes() {
		list = append(list, table.Sum([]byte{a}), table.On(1<<31, []byte{a, 0, a}))
	}
	for size := range 40 {
		list = append(list, table.Sum(textOf(size, 8)), table.On(77, textOf(size, 8)))
	}
	return list
}

// P5.1, R4: tables that are made one behind the other answer alike, whatever was asked of either before.
func TestTwoTables(t *testing.T) {
	first := Make()
	want := answers(first)
	second := Make()
	if first == second {
		t.Error("the second table is the first")
	}
	if !slices.Equal(answers(second), want) {
		t.Error("the second table answers otherwise")
	}
	if !slices.Equal(answers(first), want) {
		t.Error("the first table answers otherwise after the second was made")
	}
	*second = Table{}
	if !slices.Equal(answers(first), want) {
		t.Error("the first table changes with the second")
	}
	if !slices.Equal(answers(Make()), want) {
		t.Error("a third table changes with the second")
	}
}

// P5.1, R4: asking changes nothing in a table.
func TestTableStays(t *testing.T) {
	table := Make()
	was := *table
	want := answers(table)
	for range 3 {
		if !slices.Equal(answers(table), want) {
			t.Fatal("the same table answers otherwise")
		}
	}
	if *table != was {
		t.Error("the table was changed")
	}
}
