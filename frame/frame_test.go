package frame

import (
	"bytes"
	"encoding/hex"
	"math"
	"slices"
	"testing"

	"stave/api"
	"stave/crc"
)

// sumOf tells the CRC-32C checksum of b bit by bit, without a table.
func sumOf(b []byte) uint32 {
	value := uint32(0xFFFFFFFF)
	for _, next := range b {
		value ^= uint32(next)
		for range 8 {
			out := value % 2
			value /= 2
			value ^= out * 0x82F63B78
		}
	}
	return value ^ 0xFFFFFFFF
}

// summed tells a copy of b with its sum behind it, least significant byte first.
func summed(b []byte) []byte {
	s := sumOf(b)
	return slices.Concat(b, []byte{byte(s), byte(s >> 8), byte(s >> 16), byte(s >> 24)})
}

// bytesOf tells the bytes of a frame as P7.2 says them, each with a line of its own; it asks nothing of the frame.
func bytesOf(f api.Frame) []byte {
	s, g := uint64(f.Stripe), uint64(f.Gen)
	head := []byte{
		0x53, 0x54,
		byte(f.Kind),
		byte(f.Slot),
		byte(s), byte(s >> 8), byte(s >> 16), byte(s >> 24),
		byte(g), byte(g >> 8), byte(g >> 16), byte(g >> 24), byte(g >> 32), byte(g >> 40), byte(g >> 48), byte(g >> 56),
	}
	return summed(slices.Concat(head, f.Data[:]))
}

// dataOf tells data of all kinds; the salt makes others of them.
func dataOf(salt int) (data [108]byte) {
	for i := range data {
		data[i] = byte(i*i*salt + 31*i + 101*salt + i/7)
	}
	return data
}

// repeated tells data of which each byte is the same.
func repeated(b byte) (data [108]byte) {
	for i := range data {
		data[i] = b
	}
	return data
}

// filled tells data whose byte i is the lowest byte of what the rule says of i.
func filled(rule func(i int) int) (data [108]byte) {
	for i := range data {
		data[i] = byte(rule(i))
	}
	return data
}

// unhex tells the bytes that a text writes out.
func unhex(t *testing.T, text string) []byte {
	t.Helper()
	b, err := hex.DecodeString(text)
	if err != nil {
		t.Fatal(err)
	}
	return b
}

// none wants Get to find nothing in b.
func none(t *testing.T, name string, b []byte) {
	t.Helper()
	if f, ok := Get(b); ok || f != (api.Frame{}) {
		t.Errorf("%s: Get of % x is %v, %v", name, b, f, ok)
	}
}

// finds wants Get to find this frame in b.
func finds(t *testing.T, name string, b []byte, want api.Frame) {
	t.Helper()
	if f, ok := Get(b); !ok || f != want {
		t.Errorf("%s: Get of % x is %v, %v, want %v", name, b, f, ok, want)
	}
}

// valid wants f to be valid, its bytes to be those that the chapter says, and Get to find it in them.
func valid(t *testing.T, name string, f api.Frame) {
	t.Helper()
	if !Right(f) {
		t.Errorf("%s: Right of %v is false", name, f)
	}
	want := bytesOf(f)
	if got := Put(f); !bytes.Equal(got, want) {
		t.Errorf("%s: Put of %v is % x, want % x", name, f, got, want)
	}
	finds(t, name, want, f)
}

// invalid wants f not to be valid, Put to have nothing for it, and Get not to find it in what would be its bytes.
func invalid(t *testing.T, name string, f api.Frame) {
	t.Helper()
	if Right(f) {
		t.Errorf("%s: Right of %v is true", name, f)
	}
	if got := Put(f); got != nil {
		t.Errorf("%s: Put of %v is % x", name, f, got)
	}
	if readsBack(f) {
		none(t, name, bytesOf(f))
	}
}

// readsBack tells whether the numbers of f have room in the bytes of a frame, so that these do not say other ones.
func readsBack(f api.Frame) bool {
	return f.Kind == int(byte(f.Kind)) && f.Slot == int(byte(f.Slot)) && f.Stripe == int(uint32(f.Stripe))
}

// field is one of a frame's, with numbers that may stand in it and numbers that may not. The first ones of each are
// the least and the greatest that may be and those beyond them.
type field struct {
	name  string
	of    func(f *api.Frame) *int
	right []int
	wrong []int
}

func fields() []field {
	return []field{
		{"Kind", func(f *api.Frame) *int { return &f.Kind },
			[]int{api.KSuper, api.KStripe, api.KJournal},
			[]int{0, 4, -1, 5, 255, 256, 257, 258, 259, -253, -254, -255, 1<<32 + 1, 1<<32 + 3, -1 << 32, math.MaxInt, math.MinInt, math.MinInt + 2}},
		{"Slot", func(f *api.Frame) *int { return &f.Slot },
			[]int{0, 7, 1, 2, 3, 4, 5, 6},
			[]int{-1, 8, 9, 16, 255, 256, 257, -256, -249, 1 << 32, 1<<32 + 7, -1 << 32, math.MaxInt, math.MinInt, math.MinInt + 7}},
		{"Stripe", func(f *api.Frame) *int { return &f.Stripe },
			[]int{0, 63, 1, 31, 32, 62},
			[]int{-1, 64, 65, 127, 128, 255, 256, 1 << 16, 1 << 24, 1<<24 + 1, 1 << 31, 1<<32 - 1, 1 << 32, 1<<32 + 63, -64, -1 << 31, -1 << 32, math.MaxInt, math.MinInt, math.MinInt + 63}},
		{"Gen", func(f *api.Frame) *int { return &f.Gen },
			[]int{0, 1 << 60, 1, 255, 256, 1 << 31, 1<<32 - 1, 1 << 32, 0x0102030405060708, 1 << 59, 1<<60 - 1},
			[]int{-1, 1<<60 + 1, -2, 1<<60 + 2, 1<<60 + 256, 3 << 59, 1 << 61, 1<<61 - 1, 1 << 62, 0x7F01020304050607, -1 << 32, -1 << 60, math.MaxInt, math.MaxInt - 1, math.MinInt, math.MinInt + 1}},
	}
}

// frames tells frames that are valid, with data of all kinds.
func frames() []api.Frame {
	return []api.Frame{
		{Kind: api.KSuper},
		{Kind: api.KStripe, Slot: 2, Stripe: 5, Gen: 7},
		{Kind: api.KSuper, Slot: 1, Stripe: 2, Gen: 3, Data: dataOf(1)},
		{Kind: api.KJournal, Slot: 6, Stripe: 17, Gen: 0x0102030405060708, Data: dataOf(2)},
		{Kind: api.KStripe, Slot: 7, Stripe: 63, Gen: 1 << 60, Data: repeated(255)},
		{Kind: api.KStripe, Slot: 5, Stripe: 42, Gen: 0x0F1E2D3C4B5A6978, Data: dataOf(5)},
	}
}

// The chapter's example runs.
func TestRuns(t *testing.T) {
	f := api.Frame{Kind: api.KStripe, Slot: 2, Stripe: 5, Gen: 7}
	b := Put(f)
	if len(b) != 128 || !bytes.Equal(b[:16], unhex(t, "53540302050000000700000000000000")) {
		t.Fatalf("Put: % x", b)
	}
	if !bytes.Equal(b[16:124], make([]byte, 108)) {
		t.Errorf("Put: the data are % x", b[16:124])
	}
	finds(t, "the run", b, f)
	none(t, "bytes 0", make([]byte, 128))
}

// P7.2, P7.3: frames with their bytes written out. The sums of these come from elsewhere, so that nothing of this
// project's has a part in them.
func TestBytesWrittenOut(t *testing.T) {
	for _, c := range []struct {
		f     api.Frame
		bytes string
	}{
		{api.Frame{Kind: api.KSuper},
			"5354010000000000000000000000000000000000000000000000000000000000" +
				"0000000000000000000000000000000000000000000000000000000000000000" +
				"0000000000000000000000000000000000000000000000000000000000000000" +
				"00000000000000000000000000000000000000000000000000000000c88aaf90"},
		{api.Frame{Kind: api.KStripe, Slot: 2, Stripe: 5, Gen: 7},
			"5354030205000000070000000000000000000000000000000000000000000000" +
				"0000000000000000000000000000000000000000000000000000000000000000" +
				"0000000000000000000000000000000000000000000000000000000000000000" +
				"000000000000000000000000000000000000000000000000000000007f674e2f"},
		{api.Frame{Kind: api.KSuper, Slot: 7, Stripe: 63, Gen: 0x0102030405060708, Data: filled(func(i int) int { return 3*i + 1 })},
			"535401073f00000008070605040302010104070a0d101316191c1f2225282b2e" +
				"3134373a3d404346494c4f5255585b5e6164676a6d707376797c7f8285888b8e" +
				"9194979a9da0a3a6a9acafb2b5b8bbbec1c4c7cacdd0d3d6d9dcdfe2e5e8ebee" +
				"f1f4f7fafd000306090c0f1215181b1e2124272a2d303336393c3f4218615b35"},
		{api.Frame{Kind: api.KJournal, Slot: 4, Stripe: 42, Gen: 1 << 60, Data: repeated(255)},
			"535402042a0000000000000000000010ffffffffffffffffffffffffffffffff" +
				"ffffffffffffffffffffffffffffffffffffffffffffffffffffffffffffffff" +
				"ffffffffffffffffffffffffffffffffffffffffffffffffffffffffffffffff" +
				"ffffffffffffffffffffffffffffffffffffffffffffffffffffffff6fc3d3a0"},
		{api.Frame{Kind: api.KStripe, Slot: 1, Stripe: 32, Gen: 0x0F1E2D3C4B5A6978, Data: filled(func(i int) int { return 200 - i })},
			"535403012000000078695a4b3c2d1e0fc8c7c6c5c4c3c2c1c0bfbebdbcbbbab9" +
				"b8b7b6b5b4b3b2b1b0afaeadacabaaa9a8a7a6a5a4a3a2a1a09f9e9d9c9b9a99" +
				"9897969594939291908f8e8d8c8b8a898887868584838281807f7e7d7c7b7a79" +
				"7877767574737271706f6e6d6c6b6a696867666564636261605f5e5d6be13c5d"},
		{api.Frame{Kind: api.KJournal, Slot: 5, Stripe: 18, Gen: 0x0807060504030201, Data: filled(func(i int) int { return i*i + 7 })},
			"5354020512000000010203040506070807080b1017202b3847586b8097b0cbe8" +
				"07284b7097c0eb184778abe017508bc807488bd01760abf84798eb4097f04ba8" +
				"0768cb3097006bd847b82ba017900b8807880b9017a02bb847d86b009730cb68" +
				"07a84bf09740eb9847f8ab6017d08b4807c88b5017e0ab784718ebc068c7b1df"},
	} {
		want := unhex(t, c.bytes)
		if got := Put(c.f); !bytes.Equal(got, want) {
			t.Errorf("Put of %v is % x, want % x", c.f, got, want)
		}
		finds(t, "written out", want, c.f)
	}
}

// P7.1: the kinds of api are three, each of which may be with every slot.
func TestEveryKindAndSlot(t *testing.T) {
	kinds := []int{api.KSuper, api.KJournal, api.KStripe}
	for kind := -300; kind <= 600; kind++ {
		for slot := -2; slot <= 10; slot++ {
			f := api.Frame{Kind: kind, Slot: slot, Stripe: 9, Gen: 11, Data: dataOf(3)}
			if slices.Contains(kinds, kind) && 0 <= slot && slot <= 7 {
				valid(t, "kind and slot", f)
			} else {
				invalid(t, "kind and slot", f)
			}
		}
	}
}

// P7.1: every number near those that may be, and others whose lowest bytes are such
func TestEverySlotAndStripe(t *testing.T) {
	for n := -400; n <= 700; n++ {
		f := api.Frame{Kind: api.KJournal, Slot: n, Stripe: 3, Gen: 4, Data: dataOf(4)}
		if 0 <= n && n <= 7 {
			valid(t, "slot", f)
		} else {
			invalid(t, "slot", f)
		}
		f.Slot, f.Stripe = 3, n
		if 0 <= n && n <= 63 {
			valid(t, "stripe", f)
		} else {
			invalid(t, "stripe", f)
		}
	}
}

// P7.1: the generations around each power of 2
func TestGenerations(t *testing.T) {
	f := api.Frame{Kind: api.KStripe, Slot: 1, Stripe: 2, Data: dataOf(6)}
	for bit := range 63 {
		for off := -3; off <= 3; off++ {
			f.Gen = 1<<bit + off
			if 0 <= f.Gen && f.Gen <= 1<<60 {
				valid(t, "generation", f)
			} else {
				invalid(t, "generation", f)
			}
			if f.Gen = -1<<bit - off; f.Gen < 0 {
				invalid(t, "generation below 0", f)
			}
		}
	}
}

// P7.1 to P7.3: each number that may be, in its field, whatever the other fields have
func TestRightNumbers(t *testing.T) {
	for _, own := range fields() {
		for _, n := range own.right {
			for _, f := range frames() {
				*own.of(&f) = n
				valid(t, own.name, f)
			}
		}
	}
	all := fields()
	for _, kind := range all[0].right {
		for _, slot := range all[1].right {
			for _, stripe := range all[2].right {
				for _, gen := range all[3].right {
					valid(t, "all four", api.Frame{Kind: kind, Slot: slot, Stripe: stripe, Gen: gen, Data: dataOf(slot)})
				}
			}
		}
	}
}

// P7.1 to P7.3: one field with a number that may not be, whatever the other fields have
func TestOneFieldWrong(t *testing.T) {
	for _, own := range fields() {
		for _, n := range own.wrong {
			for _, f := range frames() {
				*own.of(&f) = n
				invalid(t, own.name, f)
			}
		}
	}
}

// P7.1 to P7.3: two fields with numbers that may not be, and all four
func TestMoreFieldsWrong(t *testing.T) {
	all := fields()
	for i, one := range all {
		for _, other := range all[i+1:] {
			for _, n := range one.wrong {
				for _, m := range other.wrong {
					f := frames()[3]
					*one.of(&f), *other.of(&f) = n, m
					invalid(t, one.name+" and "+other.name, f)
				}
			}
		}
	}
	for j := range 40 {
		f := frames()[2]
		for _, own := range all {
			*own.of(&f) = own.wrong[j%len(own.wrong)]
		}
		invalid(t, "all four", f)
	}
	invalid(t, "the zero frame", api.Frame{})
	invalid(t, "the zero frame with data", api.Frame{Data: dataOf(1)})
}

// P7.2, P7.3: each byte of the data alone, with every value
func TestEveryByteOfTheData(t *testing.T) {
	for at := range 108 {
		for value := range 256 {
			f := api.Frame{Kind: api.KJournal, Slot: 3, Stripe: 4, Gen: 5}
			f.Data[at] = byte(value)
			valid(t, "data", f)
		}
	}
}

// P7.3: bytes of a wrong number, some of them a frame's with something before or behind, or without their end
func TestWrongNumberOfBytes(t *testing.T) {
	none(t, "nil", nil)
	none(t, "no bytes", []byte{})
	for _, f := range frames() {
		b := bytesOf(f)
		for size := range b {
			none(t, "the first bytes", b[:size])
			none(t, "the last bytes", b[len(b)-size:])
			if size != 124 {
				none(t, "too few or too many bytes with their sum", summed(b[:size]))
			}
		}
		for more := 1; more <= 130; more++ {
			none(t, "bytes 0 behind", slices.Concat(b, make([]byte, more)))
			none(t, "bytes 0 before", slices.Concat(make([]byte, more), b))
		}
		none(t, "twice", slices.Concat(b, b))
		none(t, "a byte behind", slices.Concat(b, []byte{b[127]}))
		none(t, "a byte 255 behind", slices.Concat(b, []byte{255}))
		none(t, "one byte of data too few", summed(b[:123]))
		none(t, "one byte of data too many", summed(slices.Concat(b[:124], []byte{0})))
	}
}

// P7.3: right in form and with a right sum, but with a byte before the data that may not be there
func TestEveryByteOfTheHeadWithRightSum(t *testing.T) {
	for _, f := range frames() {
		for at := range 16 {
			for value := range 256 {
				head := bytesOf(f)[:124]
				head[at] = byte(value)
				g := f
				ok := true
				switch at {
				case 0:
					ok = value == 0x53
				case 1:
					ok = value == 0x54
				case 2:
					g.Kind, ok = value, 1 <= value && value <= 3
				case 3:
					g.Slot, ok = value, value <= 7
				case 4:
					g.Stripe, ok = value, value <= 63
				case 5, 6, 7:
					ok = value == 0
				default:
					shift := 8 * (at - 8)
					gen := uint64(f.Gen)&^(255<<shift) | uint64(value)<<shift
					g.Gen, ok = int(gen), gen <= 1<<60
				}
				if ok {
					finds(t, "byte of the head", summed(head), g)
				} else {
					none(t, "byte of the head", summed(head))
				}
			}
		}
	}
}

// P7.3: beginnings that are none, each with a right sum
func TestWrongBeginnings(t *testing.T) {
	for _, f := range frames() {
		for _, beginning := range [][2]byte{{0, 0}, {0x53, 0}, {0, 0x54}, {0x54, 0x53}, {0x53, 0x53}, {0x54, 0x54}, {0x73, 0x74}, {255, 255}, {0x52, 0x54}, {0x53, 0x55}} {
			b := bytesOf(f)[:124]
			copy(b, beginning[:])
			none(t, "beginning", summed(b))
		}
		none(t, "moved on by one byte", summed(slices.Concat([]byte{0}, bytesOf(f)[:123])))
		none(t, "moved back by one byte", summed(bytesOf(f)[1:125]))
	}
}

// P7.3: numbers with their most significant byte first
func TestNumbersTheOtherWayRound(t *testing.T) {
	f := api.Frame{Kind: api.KStripe, Slot: 2, Stripe: 5, Gen: 0x0807060504030201, Data: dataOf(8)}
	b := bytesOf(f)[:124]
	slices.Reverse(b[8:16])
	f.Gen = 0x0102030405060708
	finds(t, "the generation turned round is another one", summed(b), f)
	slices.Reverse(b[4:8])
	none(t, "stripe", summed(b))
	whole := bytesOf(f)
	slices.Reverse(whole[124:])
	none(t, "sum", whole)
}

// P7.3: sums that are wrong
func TestWrongSums(t *testing.T) {
	for _, f := range frames() {
		b := bytesOf(f)
		right := slices.Clone(b[124:])
		other := bytesOf(api.Frame{Kind: api.KJournal, Slot: 3, Gen: 99, Data: f.Data})
		without := sumOf(b[2:124])
		for _, sum := range [][]byte{{0, 0, 0, 0}, {255, 255, 255, 255}, {^right[0], ^right[1], ^right[2], ^right[3]},
			{right[1], right[0], right[2], right[3]}, {right[0] + 1, right[1], right[2], right[3]},
			other[124:], {byte(without), byte(without >> 8), byte(without >> 16), byte(without >> 24)}} {
			if !bytes.Equal(sum, right) {
				none(t, "sum", slices.Concat(b[:124], sum))
			}
		}
		finds(t, "sum", slices.Concat(b[:124], right), f)
	}
}

// P7.4: sectors of one byte again and again, those of bytes 0 among them, with their sum and without
func TestSectorsOfOneByte(t *testing.T) {
	for value := range 256 {
		b := bytes.Repeat([]byte{byte(value)}, 128)
		none(t, "one byte again and again", b)
		none(t, "one byte again and again, with a sum", summed(b[:124]))
	}
	none(t, "bytes 0 with memory behind them", make([]byte, 128, 256))
}

// P7.4: each byte turned alone by every value, those of the sum among them
func TestOneByteTurned(t *testing.T) {
	for _, f := range frames() {
		b := bytesOf(f)
		for at := range b {
			for x := 1; x < 256; x++ {
				b[at] ^= byte(x)
				none(t, "one byte turned", b)
				b[at] ^= byte(x)
			}
		}
		finds(t, "turned back", b, f)
	}
}

// turns tells ways to turn so many bytes, each of which turns the first of them and the last.
func turns(size int) [][]byte {
	var list [][]byte
	for salt := range 40 {
		data := dataOf(salt + size)
		turn := slices.Clone(data[salt : salt+size])
		turn[0] |= byte(1 + salt)
		turn[size-1] |= byte(1 << (salt % 8))
		list = append(list, turn)
	}
	for _, all := range []byte{1, 0x80, 0x55, 0xAA, 255} {
		list = append(list, bytes.Repeat([]byte{all}, size))
	}
	return list
}

// P7.4: each two, three and four bytes beside each other turned in several ways, those of the sum among them
func TestBytesBesideEachOtherTurned(t *testing.T) {
	for _, f := range frames() {
		was := bytesOf(f)
		for size := 2; size <= 4; size++ {
			for at := range len(was) - size + 1 {
				for _, turn := range turns(size) {
					b := slices.Clone(was)
					for i, x := range turn {
						b[at+i] ^= x
					}
					none(t, "turned", b)
				}
			}
		}
	}
}

// P7.4: each two, three and four bytes beside each other set to others, those of another good frame among them
func TestBytesBesideEachOtherSet(t *testing.T) {
	list := frames()
	for i, f := range list {
		was := bytesOf(f)
		other := bytesOf(list[(i+1)%len(list)])
		for size := 2; size <= 4; size++ {
			for at := range len(was) - size + 1 {
				for _, to := range [][]byte{other[at : at+size], make([]byte, size), bytes.Repeat([]byte{255}, size)} {
					b := slices.Clone(was)
					copy(b[at:], to)
					if !bytes.Equal(b, was) {
						none(t, "set", b)
					}
				}
			}
		}
	}
}

// P7.4: changes within the head that lead to another valid frame: nothing but the sum tells that it is none
func TestHeadOfAnotherFrame(t *testing.T) {
	for _, f := range frames() {
		for _, own := range fields() {
			for _, n := range own.right {
				g := f
				if *own.of(&g) = n; g != f {
					none(t, own.name, slices.Concat(bytesOf(g)[:124], bytesOf(f)[124:]))
				}
			}
		}
	}
}

// P7.3, P7.4: bytes of all kinds that begin as frames do but have no right sum; whatever Get finds has these bytes.
func TestBytesOfAllKinds(t *testing.T) {
	for salt := range 3000 {
		b := make([]byte, 128)
		for i := range b {
			b[i] = byte(i*i*salt + 7*i + salt*salt + salt/256)
		}
		none(t, "all kinds", b)
		copy(b, []byte{0x53, 0x54, byte(1 + salt%3), byte(salt % 8), byte(salt % 64), 0, 0, 0})
		b[15] = byte(salt % 16)
		none(t, "all kinds behind a right head", b)
		good := summed(b[:124])
		f, ok := Get(good)
		if !ok || !bytes.Equal(Put(f), good) || !bytes.Equal(bytesOf(f), good) {
			t.Fatalf("Get of % x is %v, %v", good, f, ok)
		}
	}
}

// P7.2: the sum is crc's.
func TestSumIsOfCrc(t *testing.T) {
	table := crc.Make()
	for _, f := range frames() {
		b := Put(f)
		if len(b) != api.Sector {
			t.Fatalf("Put of %v has %d bytes", f, len(b))
		}
		s := table.Sum(b[:124])
		if !bytes.Equal(b[124:], []byte{byte(s), byte(s >> 8), byte(s >> 16), byte(s >> 24)}) {
			t.Errorf("Put of %v ends with % x, the sum is %08X", f, b[124:], s)
		}
	}
}

// R2, R5: the bytes that Get is given stay, and so does the memory around them, none of which has a part in the answer.
func TestBytesStay(t *testing.T) {
	for _, f := range frames() {
		turned := bytesOf(f)
		turned[50] ^= 1
		for _, b := range [][]byte{bytesOf(f), turned, bytesOf(f)[:127], summed(make([]byte, 124))} {
			want, wantOk := Get(slices.Clone(b))
			for _, around := range []byte{0, 1, 0x53, 255} {
				memory := bytes.Repeat([]byte{around}, 300)
				copy(memory[20:], b)
				was := slices.Clone(memory)
				for _, handed := range [][]byte{memory[20 : 20+len(b)], memory[20 : 20+len(b) : 20+len(b)]} {
					if got, ok := Get(handed); got != want || ok != wantOk {
						t.Errorf("Get of % x in memory of %d is %v, %v", b, around, got, ok)
					}
				}
				if !bytes.Equal(memory, was) {
					t.Errorf("Get of % x: the memory became % x", b, memory)
				}
			}
		}
		whole := bytesOf(f)
		none(t, "a byte too few, which stands behind", whole[:127])
		none(t, "no bytes, but they stand behind", whole[:0])
		finds(t, "all of them", whole, f)
	}
}

// R2: the frame that Get told stays when the bytes change, and the bytes when the frame does.
func TestGetKeepsNothing(t *testing.T) {
	for _, f := range frames() {
		b := bytesOf(f)
		was := slices.Clone(b)
		got, _ := Get(b)
		for i := range got.Data {
			got.Data[i] ^= 255
		}
		if !bytes.Equal(b, was) {
			t.Fatalf("the bytes became % x", b)
		}
		again, _ := Get(b)
		for i := range b {
			b[i] ^= 255
		}
		if again != f {
			t.Fatalf("the frame became %v", again)
		}
		none(t, "turned", b)
		copy(b, was)
		finds(t, "turned back", b, f)
	}
}

// R2: what Put tells is new memory each time, up to the end of its capacity.
func TestPutTellsNewMemory(t *testing.T) {
	for _, f := range frames() {
		want := bytesOf(f)
		first, second := Put(f), Put(f)
		spoil := func(b []byte) {
			b = b[:cap(b)]
			for i := range b {
				b[i] ^= 255
			}
		}
		spoil(first)
		if !bytes.Equal(second, want) {
			t.Errorf("what Put told changes with what it told before: % x", second)
		}
		third := Put(f)
		spoil(second)
		if !bytes.Equal(third, want) {
			t.Errorf("what Put tells later changes with what it told before: % x", third)
		}
		if got := Put(f); !bytes.Equal(got, want) {
			t.Errorf("Put of %v is % x, want % x", f, got, want)
		}
		finds(t, "after spoiling", want, f)
	}
}

// R4: answers depend on the arguments alone, whatever was asked before.
func TestAnswersStay(t *testing.T) {
	list := frames()
	for range 3 {
		for i, f := range list {
			bad := list[len(list)-1-i]
			bad.Kind = 9
			invalid(t, "between", bad)
			valid(t, "between", f)
			none(t, "between", bytesOf(f)[:100])
			none(t, "between", make([]byte, 128))
			valid(t, "again", f)
		}
	}
}
