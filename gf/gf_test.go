package gf

import (
	"bytes"
	"math"
	"slices"
	"testing"
)

// product multiplies step by step, without a table: b is taken bit by bit, and a doubled for each. The number 0x1d is
// what x^8 leaves modulo the polynomial of the chapter.
func product(a, b byte) byte {
	var sum byte
	for ; b != 0; b >>= 1 {
		if b&1 == 1 {
			sum ^= a
		}
		beyond := a&0x80 != 0
		a <<= 1
		if beyond {
			a ^= 0x1d
		}
	}
	return sum
}

// inverse looks for the byte whose product with a is 1, and tells 0 if there is none.
func inverse(a byte) byte {
	for b := range 256 {
		if product(a, byte(b)) == 1 {
			return byte(b)
		}
	}
	return 0
}

// power multiplies 2 so often: n is from 0 to 254.
func power(n int) byte {
	result := byte(1)
	for range n {
		result = product(result, 2)
	}
	return result
}

// allBytes tells the bytes from 0 to 255.
func allBytes() []byte {
	list := make([]byte, 256)
	for i := range list {
		list[i] = byte(i)
	}
	return list
}

// P3.1: every pair of bytes
func TestMul(t *testing.T) {
	f := Make()
	for a := range 256 {
		for b := range 256 {
			if got, want := f.Mul(byte(a), byte(b)), product(byte(a), byte(b)); got != want {
				t.Fatalf("Mul(%d, %d) is %d, want %d", a, b, got, want)
			}
		}
	}
}

// P3.1: each byte is made of the powers of x that its bits stand for, so products of these tell all others.
func TestMulOfSingleBits(t *testing.T) {
	f := Make()
	// x^7 to x^14 modulo x^8 + x^4 + x^3 + x^2 + 1, worked out by hand.
	for i, want := range []byte{0x80, 0x1d, 0x3a, 0x74, 0xe8, 0xcd, 0x87, 0x13} {
		if got := f.Mul(0x80, 1<<i); got != want {
			t.Errorf("Mul(128, %d) is %#x, want %#x", 1<<i, got, want)
		}
		if got := f.Mul(1<<i, 0x80); got != want {
			t.Errorf("Mul(%d, 128) is %#x, want %#x", 1<<i, got, want)
		}
	}
}

// P3.2: every byte
func TestInv(t *testing.T) {
	f := Make()
	for a := range 256 {
		got := f.Inv(byte(a))
		if want := inverse(byte(a)); got != want {
			t.Errorf("Inv(%d) is %d, want %d", a, got, want)
		}
		if a != 0 && product(byte(a), got) != 1 {
			t.Errorf("Inv(%d) is %d: their product is %d", a, got, product(byte(a), got))
		}
	}
	if got := f.Inv(0); got != 0 {
		t.Error("Inv(0) is", got)
	}
}

// P3.2: every pair of bytes
func TestDiv(t *testing.T) {
	f := Make()
	for b := range 256 {
		over := inverse(byte(b))
		for a := range 256 {
			got := f.Div(byte(a), byte(b))
			if want := product(byte(a), over); got != want {
				t.Fatalf("Div(%d, %d) is %d, want %d", a, b, got, want)
			}
			if b != 0 && product(got, byte(b)) != byte(a) {
				t.Fatalf("Div(%d, %d) is %d, which times %d is not %d", a, b, got, b, a)
			}
			if b == 0 && got != 0 {
				t.Fatalf("Div(%d, 0) is %d", a, got)
			}
		}
	}
}

// P3.3: every power, many times round to both sides
func TestExp(t *testing.T) {
	f := Make()
	for n := range 255 {
		want := power(n)
		for round := -300; round <= 300; round++ {
			if got := f.Exp(n + 255*round); got != want {
				t.Fatalf("Exp(%d) is %d, want %d", n+255*round, got, want)
			}
		}
	}
	if f.Exp(0) != 1 || f.Exp(1) != 2 || f.Exp(254) != 142 || f.Exp(255) != 1 || f.Exp(-1) != 142 || f.Exp(-255) != 1 {
		t.Error("ends:", f.Exp(0), f.Exp(1), f.Exp(254), f.Exp(255), f.Exp(-1), f.Exp(-255))
	}
}

// P3.3: 2^8 is 1 modulo 255, so a power of 2 as great as 2^62 is 2^6 there, and 2^63 is 2^7.
func TestExpOfVeryGreatNumbers(t *testing.T) {
	f := Make()
	for _, c := range []struct{ n, modulus int }{
		{math.MaxInt, 127}, {math.MinInt, 127}, {1 << 62, 64}, {-1 << 62, 191},
		{1 << 31, 128}, {-1 << 31, 127}, {1 << 32, 1}, {-1 << 32, 254}, {1 << 15, 128}, {1 << 16, 1}, {-1 << 16, 254},
	} {
		for step := range 600 {
			if c.n != math.MaxInt {
				want := power((c.modulus + step) % 255)
				if got := f.Exp(c.n + step); got != want {
					t.Fatalf("Exp(%d) is %d, want %d", c.n+step, got, want)
				}
			}
			if c.n != math.MinInt {
				want := power((c.modulus - step + 3*255) % 255)
				if got := f.Exp(c.n - step); got != want {
					t.Fatalf("Exp(%d) is %d, want %d", c.n-step, got, want)
				}
			}
		}
	}
}

// P3.3: every byte; no two powers from 0 to 254 are the same, so the first that is found is the smallest.
func TestLog(t *testing.T) {
	f := Make()
	want := map[byte]int{0: -1}
	for n := range 255 {
		if _, twice := want[power(n)]; twice {
			t.Fatal("a power came twice:", n)
		}
		want[power(n)] = n
	}
	if len(want) != 256 {
		t.Fatal("bytes without a logarithm:", len(want))
	}
	for _, a := range allBytes() {
		got := f.Log(a)
		if got != want[a] {
			t.Errorf("Log(%d) is %d, want %d", a, got, want[a])
		}
		if a != 0 && f.Exp(got) != a {
			t.Errorf("Exp(Log(%d)) is %d", a, f.Exp(got))
		}
	}
	if f.Log(0) != -1 || f.Log(1) != 0 || f.Log(2) != 1 || f.Log(142) != 254 {
		t.Error("ends:", f.Log(0), f.Log(1), f.Log(2), f.Log(142))
	}
}

// P3.4: ordinary slices, and those of unlike length, of no length and nil
func TestAdd(t *testing.T) {
	f := Make()
	for _, c := range []struct {
		name           string
		to, from, want []byte
		x              byte
	}{
		{"like length", []byte{1, 2, 3}, []byte{4, 5, 128}, []byte{1 ^ 8, 2 ^ 10, 3 ^ 29}, 2},
		{"to longer", []byte{1, 2, 3}, []byte{4, 5}, []byte{1 ^ 8, 2 ^ 10, 3}, 2},
		{"from longer", []byte{1, 2}, []byte{4, 5, 6}, []byte{1 ^ 8, 2 ^ 10}, 2},
		{"x is 0", []byte{1, 2, 3}, []byte{4, 5, 6}, []byte{1, 2, 3}, 0},
		{"x is 1", []byte{1, 2, 3}, []byte{4, 5, 6}, []byte{1 ^ 4, 2 ^ 5, 3 ^ 6}, 1},
		{"x is 1, to longer", []byte{1, 2, 3}, []byte{4}, []byte{1 ^ 4, 2, 3}, 1},
		{"x is 255", []byte{9, 9, 9}, []byte{0, 1, 2}, []byte{9, 9 ^ 255, 9 ^ 227}, 255},
		{"to has zeros", []byte{0, 0, 0}, []byte{4, 0, 6}, []byte{12, 0, 10}, 3},
		{"to takes itself away", []byte{4, 5}, []byte{4, 5}, []byte{0, 0}, 1},
		{"to nil", nil, []byte{1, 2}, nil, 3},
		{"to empty", []byte{}, []byte{1, 2}, []byte{}, 3},
		{"from nil", []byte{7, 8}, nil, []byte{7, 8}, 3},
		{"from empty", []byte{7, 8}, []byte{}, []byte{7, 8}, 3},
		{"both nil", nil, nil, nil, 3},
		{"both empty", []byte{}, []byte{}, []byte{}, 1},
		{"all nothing", nil, nil, nil, 0},
	} {
		from := slices.Clone(c.from)
		f.Add(c.to, c.from, c.x)
		if !bytes.Equal(c.to, c.want) {
			t.Errorf("%s: %v, want %v", c.name, c.to, c.want)
		}
		if !bytes.Equal(c.from, from) {
			t.Errorf("%s: from became %v", c.name, c.from)
		}
	}
}

// P3.4: every byte of from with every x, to every byte of to
func TestAddOfEveryByte(t *testing.T) {
	f := Make()
	from := allBytes()
	for x := range 256 {
		for was := range 256 {
			to := bytes.Repeat([]byte{byte(was)}, 256)
			f.Add(to, from, byte(x))
			for i, got := range to {
				if want := byte(was) ^ product(byte(i), byte(x)); got != want {
					t.Fatalf("%d and %d times %d is %d, want %d", was, x, i, got, want)
				}
			}
		}
	}
	if !bytes.Equal(from, allBytes()) {
		t.Error("from was changed")
	}
}

// P3.4, R2, R5: of to the bytes beyond the shorter length stay, and so does the memory around both slices; from is
// handed in in the middle of its memory, so that a byte of its unused capacity would show in to if it were read.
func TestAddLeavesTheRest(t *testing.T) {
	f := Make()
	for toLength := range 6 {
		for fromLength := range 6 {
			for _, x := range []byte{0, 1, 2, 255} {
				toMemory := []byte{11, 12, 13, 14, 15, 16, 17, 18, 19}
				fromMemory := []byte{21, 22, 23, 24, 25, 26, 27, 28, 29}
				want := slices.Clone(toMemory)
				for i := range min(toLength, fromLength) {
					want[2+i] ^= product(fromMemory[2+i], x)
				}
				was := slices.Clone(fromMemory)
				f.Add(toMemory[2:2+toLength], fromMemory[2:2+fromLength], x)
				if !bytes.Equal(toMemory, want) || !bytes.Equal(fromMemory, was) {
					t.Errorf("%d and %d bytes, x %d: to %v, want %v; from %v", toLength, fromLength, x, toMemory, want, fromMemory)
				}
			}
		}
	}
}

// P3.4: long slices
func TestAddOfManyBytes(t *testing.T) {
	f := Make()
	from := bytes.Repeat(allBytes(), 300)
	to := bytes.Repeat([]byte{1, 2, 3, 4, 5}, 20000)
	was := slices.Clone(to)
	f.Add(to, from, 77)
	for i, got := range to {
		want := was[i]
		if i < len(from) {
			want ^= product(from[i], 77)
		}
		if got != want {
			t.Fatalf("byte %d is %d, want %d", i, got, want)
		}
	}
}

// P3.4, R4: what comes of it doesn't hang on where the slices lie, not even where they lie over one another.
func TestAddOfSlicesThatShareMemory(t *testing.T) {
	f := Make()
	for shift := -3; shift <= 3; shift++ {
		for _, x := range []byte{0, 1, 2, 142} {
			memory := []byte{1, 2, 4, 8, 16, 32, 64, 128, 29, 58, 116}
			to, from := memory[3:8], memory[3+shift:8+shift]
			apart := slices.Clone(to)
			f.Add(apart, slices.Clone(from), x)
			f.Add(to, from, x)
			if !bytes.Equal(to, apart) {
				t.Errorf("shift %d, x %d: %v, want %v", shift, x, to, apart)
			}
		}
	}
}

// P3.4: what is added twice is gone again, and sums of products may be added in any order.
func TestAddTwice(t *testing.T) {
	f := Make()
	one, other := allBytes(), bytes.Repeat([]byte{7, 200, 0}, 90)
	for x := range 256 {
		to := bytes.Repeat([]byte{3, 77}, 128)
		was := slices.Clone(to)
		f.Add(to, one, byte(x))
		f.Add(to, other, 9)
		f.Add(to, one, byte(x))
		f.Add(to, other, 9)
		if !bytes.Equal(to, was) {
			t.Fatal(x, to)
		}
	}
}

// P3.5: 0 and 1 are the neutral elements, and each byte but 0 has one inverse.
func TestNeutralElements(t *testing.T) {
	f := Make()
	for _, a := range allBytes() {
		if f.Mul(a, 1) != a || f.Mul(1, a) != a || f.Mul(a, 0) != 0 || f.Mul(0, a) != 0 {
			t.Error(a, "times 1 or 0:", f.Mul(a, 1), f.Mul(1, a), f.Mul(a, 0), f.Mul(0, a))
		}
		ones := 0
		for _, b := range allBytes() {
			if f.Mul(a, b) == 1 {
				ones++
			}
			if a != 0 && b != 0 && f.Mul(a, b) == 0 {
				t.Error(a, "times", b, "is 0")
			}
		}
		if (ones == 1) != (a != 0) {
			t.Error(a, "has so many inverses:", ones)
		}
	}
}

// P3.5: of all triples of bytes the products may be taken in any order, and a sum may be multiplied part by part.
func TestLawsOfAField(t *testing.T) {
	f := Make()
	for a := range 256 {
		for b := range 256 {
			ab := f.Mul(byte(a), byte(b))
			if ab != f.Mul(byte(b), byte(a)) {
				t.Fatal(a, b)
			}
			for c := range 256 {
				if f.Mul(ab, byte(c)) != f.Mul(byte(a), f.Mul(byte(b), byte(c))) {
					t.Fatal("factors bound otherwise:", a, b, c)
				}
				if f.Mul(byte(a), byte(b^c)) != ab^f.Mul(byte(a), byte(c)) {
					t.Fatal("a sum multiplied part by part:", a, b, c)
				}
			}
		}
	}
}

// P3.5, P3.3: products are sums of logarithms, quotients their differences.
func TestLogarithms(t *testing.T) {
	f := Make()
	for a := 1; a < 256; a++ {
		for b := 1; b < 256; b++ {
			sum, difference := f.Log(byte(a))+f.Log(byte(b)), f.Log(byte(a))-f.Log(byte(b))
			if f.Exp(sum) != f.Mul(byte(a), byte(b)) || f.Exp(difference) != f.Div(byte(a), byte(b)) {
				t.Fatal(a, b)
			}
		}
	}
}

// answers asks a field all that it can tell.
func answers(f *Field) (list []int) {
	for _, a := range allBytes() {
		list = append(list, int(f.Inv(a)), f.Log(a), int(f.Exp(int(a))), int(f.Exp(-int(a))))
		for _, b := range allBytes() {
			list = append(list, int(f.Mul(a, b)), int(f.Div(a, b)))
		}
		to := allBytes()
		f.Add(to, bytes.Repeat([]byte{a}, 200), a)
		for _, b := range to {
			list = append(list, int(b))
		}
	}
	return list
}

// P3.1, R4: fields that are made one behind the other answer alike, whatever was asked of either before.
func TestTwoFields(t *testing.T) {
	first := Make()
	want := answers(first)
	second := Make()
	if first == second {
		t.Error("the second field is the first")
	}
	if !slices.Equal(answers(second), want) {
		t.Error("the second field answers otherwise")
	}
	if !slices.Equal(answers(first), want) {
		t.Error("the first field answers otherwise after the second was made")
	}
	*second = Field{}
	if !slices.Equal(answers(first), want) {
		t.Error("the first field changes with the second")
	}
	if !slices.Equal(answers(Make()), want) {
		t.Error("a third field changes with the second")
	}
}

// The chapter's example runs.
func TestRuns(t *testing.T) {
	f := Make()
	if got := f.Mul(2, 128); got != 29 {
		t.Error("Mul(2, 128) is", got)
	}
	if got := f.Mul(3, 7); got != 9 {
		t.Error("Mul(3, 7) is", got)
	}
	if got := f.Inv(2); got != 142 {
		t.Error("Inv(2) is", got)
	}
	if got := f.Exp(8); got != 29 {
		t.Error("Exp(8) is", got)
	}
	if got := f.Log(29); got != 8 {
		t.Error("Log(29) is", got)
	}
}
