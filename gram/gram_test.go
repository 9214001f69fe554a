package gram

import (
	"bytes"
	"errors"
	"math"
	"slices"
	"strings"
	"testing"

	"stave/api"
	"stave/fault"
)

func num(size, lo, hi int) api.Field { return api.Field{Kind: api.FNum, Size: size, Lo: lo, Hi: hi} }

func text(lo, hi int) api.Field { return api.Field{Kind: api.FText, Lo: lo, Hi: hi} }

func texts(lo, hi, most int) api.Field {
	return api.Field{Kind: api.FTexts, Lo: lo, Hi: hi, Most: most}
}

func numberOf(n int) api.Value { return api.Value{N: n} }

func textOf(s string) api.Value { return api.Value{S: s} }

func textsOf(l ...string) api.Value { return api.Value{L: l} }

func same(a, b []api.Value) bool {
	return slices.EqualFunc(a, b, func(x, y api.Value) bool { return x.N == y.N && x.S == y.S && slices.Equal(x.L, y.L) })
}

// refused wants exactly one layer around the bare kind, with that operation and that position.
func refused(t *testing.T, name string, err error, op string, at int, kind api.Errno) {
	t.Helper()
	var f api.Fault
	if !errors.As(err, &f) || f != (api.Fault{Op: op, At: at, Err: kind}) || fault.Kind(err) != kind {
		t.Errorf("%s: refused with %#v, want %s, At %d, %d", name, err, op, at, kind)
	}
}

// row is a grammar with each kind and each size, values of it, and their encoding; begins tells for each field where
// it begins in the encoding, and at last where the encoding ends.
func row() (fields []api.Field, values []api.Value, encoding []byte, begins []int) {
	fields = []api.Field{num(2, 0, 999), text(1, 3), texts(0, 2, 3), num(8, 0, math.MaxInt), num(1, 3, 9), text(0, 0), num(4, 0, 1<<31), texts(1, 1, 0)}
	values = []api.Value{numberOf(258), textOf("ab"), textsOf("cde", ""), numberOf(0x0102030405060708), numberOf(9), textOf(""), numberOf(0x7a6b5c4d), textsOf("")}
	encoding = []byte{
		2, 1,
		2, 0, 'a', 'b',
		2, 3, 0, 'c', 'd', 'e', 0, 0,
		8, 7, 6, 5, 4, 3, 2, 1,
		9,
		0, 0,
		0x4d, 0x5c, 0x6b, 0x7a,
		1, 0, 0,
	}
	return fields, values, encoding, []int{0, 2, 6, 14, 22, 23, 25, 29, 32}
}

// wrongFields are fields that are not valid, by each of the things that P2.1 asks for.
func wrongFields() map[string]api.Field {
	return map[string]api.Field{
		"zero field": {}, "kind below zero": {Kind: -1, Hi: 1}, "kind beyond": {Kind: 4, Hi: 1}, "kind zero": {Size: 1, Hi: 1},
		"greatest kind": {Kind: math.MaxInt, Hi: 1}, "least kind": {Kind: math.MinInt, Hi: 1},
		"number, Lo below zero": num(4, -1, 5), "number, least Lo": num(8, math.MinInt, 5), "number, Lo beyond Hi": num(8, 6, 5),
		"number, all below zero": num(8, -2, -1),
		"number, Size 0":         num(0, 0, 0), "number, Size 3": num(3, 0, 1), "number, Size 5": num(5, 0, 1), "number, Size 6": num(6, 0, 1),
		"number, Size 7": num(7, 0, 1), "number, Size 9": num(9, 0, 1), "number, Size 16": num(16, 0, 1), "number, Size 64": num(64, 0, 1),
		"number, Size below zero": num(-1, 0, 0), "number, least Size": num(math.MinInt, 0, 0), "number, greatest Size": num(math.MaxInt, 0, 0),
		"number, Hi for one byte": num(1, 0, 1<<8), "number, Hi for two bytes": num(2, 0, 1<<16), "number, Hi for four bytes": num(4, 0, 1<<32),
		"number, greatest Hi for four bytes": num(4, 0, math.MaxInt), "number, Lo and Hi for one byte": num(1, 256, 256),
		"number with Most": {Kind: api.FNum, Size: 1, Hi: 1, Most: 1}, "number with Most below zero": {Kind: api.FNum, Size: 1, Hi: 1, Most: -1},
		"text, Lo below zero": text(-1, 5), "text, Lo beyond Hi": text(6, 5), "text, Hi": text(0, 65536), "text, greatest Hi": text(0, math.MaxInt),
		"text with Size": {Kind: api.FText, Size: 2, Hi: 5}, "text with Size below zero": {Kind: api.FText, Size: -1, Hi: 5},
		"text with Most": {Kind: api.FText, Hi: 5, Most: 5}, "text with Most below zero": {Kind: api.FText, Hi: 5, Most: -1},
		"texts, Lo below zero": texts(-1, 5, 5), "texts, Lo beyond Hi": texts(6, 5, 5), "texts, Hi": texts(0, 256, 5),
		"texts, greatest Hi": texts(0, math.MaxInt, 5), "texts, Most": texts(0, 5, 65536), "texts, greatest Most": texts(0, 5, math.MaxInt),
		"texts, Most below zero": texts(0, 5, -1), "texts, least Most": texts(0, 5, math.MinInt),
		"texts with Size": {Kind: api.FTexts, Size: 1, Hi: 5, Most: 5}, "texts with Size below zero": {Kind: api.FTexts, Size: -1, Hi: 5, Most: 5},
	}
}

// P2.1
func TestRight(t *testing.T) {
	for _, f := range []api.Field{
		num(1, 0, 0), num(1, 0, 255), num(1, 255, 255), num(2, 0, 256), num(2, 0, 65535), num(4, 0, 65536), num(4, 7, 1<<32-1), num(8, 0, 1<<32),
		num(8, 0, math.MaxInt), num(8, math.MaxInt, math.MaxInt), num(8, 5, 5),
		text(0, 0), text(0, 256), text(0, 65535), text(65535, 65535), text(5, 5),
		texts(0, 0, 0), texts(0, 255, 0), texts(255, 255, 65535), texts(0, 0, 65535), texts(5, 5, 256),
	} {
		if !Right(f) {
			t.Error("not valid:", f)
		}
	}
	for name, f := range wrongFields() {
		if Right(f) {
			t.Error(name, "is valid:", f)
		}
	}
}

// P2.1, member by member: what the chapter allows is said here by sets and limits, and asked at all edges at once.
func TestRightAtAllEdges(t *testing.T) {
	edges := []int{math.MinInt, -1, 0, 1, 2, 254, 255, 256, 65534, 65535, 65536, 1<<32 - 1, 1 << 32, math.MaxInt}
	sizes := []int{math.MinInt, -8, -1, 0, 1, 2, 3, 4, 5, 6, 7, 8, 9, 16, 32, 64, math.MaxInt}
	greatest := map[int]int{1: 255, 2: 65535, 4: 1<<32 - 1, 8: math.MaxInt}
	for _, kind := range []int{math.MinInt, -1, 0, api.FNum, api.FText, api.FTexts, 4, math.MaxInt} {
		for _, size := range sizes {
			for _, lo := range edges {
				for _, hi := range edges {
					for _, most := range edges {
						hiMost, known := greatest[size]
						mostMost := 0
						switch kind {
						case api.FText:
							known, hiMost = size == 0, 65535
						case api.FTexts:
							known, hiMost, mostMost = size == 0, 255, 65535
						case api.FNum:
						default:
							known = false
						}
						want := known && 0 <= lo && lo <= hi && hi <= hiMost && 0 <= most && most <= mostMost
						f := api.Field{Kind: kind, Size: size, Lo: lo, Hi: hi, Most: most}
						if Right(f) != want {
							t.Fatal(f, "valid, want:", want)
						}
					}
				}
			}
		}
	}
}

// pairs are single fields with a value and its encoding.
func pairs() []struct {
	f api.Field
	v api.Value
	b []byte
} {
	long := strings.Repeat("xy", 32767) + "z"
	full := textsOf(slices.Repeat([]string{long[:256]}, 255)...)
	return []struct {
		f api.Field
		v api.Value
		b []byte
	}{
		{num(1, 0, 255), numberOf(0), []byte{0}},
		{num(1, 0, 255), numberOf(255), []byte{255}},
		{num(2, 0, 65535), numberOf(0), []byte{0, 0}},
		{num(2, 0, 65535), numberOf(255), []byte{255, 0}},
		{num(2, 0, 65535), numberOf(256), []byte{0, 1}},
		{num(2, 0, 65535), numberOf(65535), []byte{255, 255}},
		{num(4, 0, 1<<32-1), numberOf(0), []byte{0, 0, 0, 0}},
		{num(4, 0, 1<<32-1), numberOf(0x01020304), []byte{4, 3, 2, 1}},
		{num(4, 0, 1<<32-1), numberOf(1 << 31), []byte{0, 0, 0, 128}},
		{num(4, 0, 1<<32-1), numberOf(1<<32 - 1), []byte{255, 255, 255, 255}},
		{num(8, 0, math.MaxInt), numberOf(0), []byte{0, 0, 0, 0, 0, 0, 0, 0}},
		{num(8, 0, math.MaxInt), numberOf(0x0102030405060708), []byte{8, 7, 6, 5, 4, 3, 2, 1}},
		{num(8, 0, math.MaxInt), numberOf(1 << 32), []byte{0, 0, 0, 0, 1, 0, 0, 0}},
		{num(8, 0, math.MaxInt), numberOf(math.MaxInt), []byte{255, 255, 255, 255, 255, 255, 255, 127}},
		{num(1, 7, 7), numberOf(7), []byte{7}},
		{num(2, 300, 400), numberOf(300), []byte{44, 1}},
		{num(2, 300, 400), numberOf(400), []byte{144, 1}},
		{num(8, 1, 2), numberOf(2), []byte{2, 0, 0, 0, 0, 0, 0, 0}},
		{text(0, 0), textOf(""), []byte{0, 0}},
		{text(0, 3), textOf(""), []byte{0, 0}},
		{text(1, 3), textOf("a"), []byte{1, 0, 'a'}},
		{text(1, 3), textOf("\x00\xff\x80"), []byte{3, 0, 0, 255, 128}},
		{text(0, 65535), textOf(long[:256]), slices.Concat([]byte{0, 1}, []byte(long[:256]))},
		{text(65535, 65535), textOf(long), slices.Concat([]byte{255, 255}, []byte(long))},
		{texts(0, 0, 0), textsOf(), []byte{0}},
		{texts(0, 2, 1), textsOf(), []byte{0}},
		{texts(1, 2, 0), textsOf("", ""), []byte{2, 0, 0, 0, 0}},
		{texts(0, 2, 1), textsOf("c"), []byte{1, 1, 0, 'c'}},
		{texts(2, 2, 3), textsOf("", "abc"), []byte{2, 0, 0, 3, 0, 'a', 'b', 'c'}},
		{texts(0, 1, 65535), textsOf(long), slices.Concat([]byte{1, 255, 255}, []byte(long))},
		{texts(255, 255, 256), full, slices.Concat([]byte{255}, bytes.Repeat(slices.Concat([]byte{0, 1}, []byte(long[:256])), 255))},
	}
}

// P2.2 and P2.3, of single fields
func TestPairs(t *testing.T) {
	for _, p := range pairs() {
		b, err := Put([]api.Field{p.f}, []api.Value{p.v})
		if err != nil || !bytes.Equal(b, p.b) {
			t.Errorf("Put of %.40v of %v: %.40v, %v", p.v, p.f, b, err)
		}
		v, err := Get([]api.Field{p.f}, p.b)
		if err != nil || !same(v, []api.Value{p.v}) {
			t.Errorf("Get of %.40v of %v: %.40v, %v", p.b, p.f, v, err)
		}
	}
}

// P2.2 and P2.3, of fields that follow one another
func TestRow(t *testing.T) {
	fields, values, encoding, _ := row()
	b, err := Put(fields, values)
	if err != nil || !bytes.Equal(b, encoding) {
		t.Error(b, err)
	}
	v, err := Get(fields, encoding)
	if err != nil || !same(v, values) {
		t.Error(v, err)
	}
	for _, p := range pairs() {
		b, err := Put(append(slices.Clone(fields), p.f, fields[4]), append(slices.Clone(values), p.v, values[4]))
		if err != nil || !bytes.Equal(b, slices.Concat(encoding, p.b, []byte{9})) {
			t.Errorf("%v: %.60v, %v", p.f, b, err)
		}
	}
}

// P2.2 and P2.3, R4: nothing, as nil and as empty lists
func TestNothing(t *testing.T) {
	for _, fields := range [][]api.Field{nil, {}} {
		for _, values := range [][]api.Value{nil, {}} {
			if b, err := Put(fields, values); len(b) != 0 || err != nil {
				t.Error(b, err)
			}
		}
		for _, b := range [][]byte{nil, {}} {
			if v, err := Get(fields, b); len(v) != 0 || err != nil {
				t.Error(v, err)
			}
		}
	}
	for _, v := range []api.Value{{L: nil}, {L: []string{}}} {
		if b, err := Put([]api.Field{texts(0, 1, 1), texts(0, 1, 1)}, []api.Value{v, v}); err != nil || !bytes.Equal(b, []byte{0, 0}) {
			t.Error(b, err)
		}
	}
	empty := []string{}
	b, err := Put([]api.Field{num(1, 0, 9), text(0, 9)}, []api.Value{{N: 1, L: empty}, {S: "a", L: empty}})
	if err != nil || !bytes.Equal(b, []byte{1, 1, 0, 'a'}) {
		t.Error(b, err)
	}
}

// P2.2 and P2.3: a field that is not valid is told with its place, ahead of all else.
func TestWrongFields(t *testing.T) {
	fields, values, encoding, _ := row()
	for name, wrong := range wrongFields() {
		for i := range fields {
			own := slices.Clone(fields)
			own[i] = wrong
			for _, later := range []int{i, len(fields) - 1} {
				own[later] = wrong
				for _, v := range [][]api.Value{values, nil, values[:i], make([]api.Value, len(fields)), make([]api.Value, 20)} {
					b, err := Put(own, v)
					if b != nil {
						t.Error(name, b)
					}
					refused(t, name, err, "gram.Put", i, api.ErrArg)
				}
				for _, b := range [][]byte{encoding, nil, {255, 255, 255}, append(slices.Clone(encoding), 0)} {
					v, err := Get(own, b)
					if v != nil {
						t.Error(name, v)
					}
					refused(t, name, err, "gram.Get", i, api.ErrArg)
				}
			}
		}
	}
}

// P2.2: the number of values is told, ahead of values that don't fit.
func TestNumberOfValues(t *testing.T) {
	fields, values, _, _ := row()
	for count := range 20 {
		if count == len(fields) {
			continue
		}
		right := append(slices.Clone(values), make([]api.Value, 20)...)[:count]
		wrong := slices.Repeat([]api.Value{numberOf(-1)}, count)
		for _, v := range [][]api.Value{right, wrong} {
			b, err := Put(fields, v)
			if b != nil {
				t.Error(b)
			}
			refused(t, "count", err, "gram.Put", count, api.ErrArg)
		}
	}
	b, err := Put(nil, []api.Value{{}})
	if b != nil {
		t.Error(b)
	}
	refused(t, "no fields", err, "gram.Put", 1, api.ErrArg)
}

// P2.2
func TestValuesThatDoNotFit(t *testing.T) {
	long := strings.Repeat("x", 65536)
	for _, c := range []struct {
		name string
		f    api.Field
		v    api.Value
	}{
		{"number below Lo", num(1, 3, 9), numberOf(2)},
		{"number beyond Hi", num(1, 3, 9), numberOf(10)},
		{"number below zero", num(1, 0, 9), numberOf(-1)},
		{"least number", num(8, 0, math.MaxInt), numberOf(math.MinInt)},
		{"number that wraps round in one byte", num(1, 0, 255), numberOf(256)},
		{"number that wraps round in two bytes", num(2, 0, 65535), numberOf(65536)},
		{"number that wraps round in four bytes", num(4, 0, 1<<32-1), numberOf(1 << 32)},
		{"number of eight bytes beyond Hi", num(8, 0, math.MaxInt-1), numberOf(math.MaxInt)},
		{"number below Lo of eight bytes", num(8, math.MaxInt, math.MaxInt), numberOf(math.MaxInt - 1)},
		{"number with S", num(1, 0, 9), api.Value{N: 1, S: "a"}},
		{"number with L", num(1, 0, 9), api.Value{N: 1, L: []string{""}}},
		{"number in S", num(1, 1, 9), textOf("a")},
		{"text below Lo", text(1, 3), textOf("")},
		{"text beyond Hi", text(1, 3), textOf("abcd")},
		{"text of more bytes than runes", text(1, 3), textOf("\u00e9\u00e9")},
		{"text beyond the empty one", text(0, 0), textOf("a")},
		{"text that wraps round", text(0, 65535), textOf(long)},
		{"text with N", text(1, 3), api.Value{N: 1, S: "a"}},
		{"text with N below zero", text(1, 3), api.Value{N: -1, S: "a"}},
		{"text with L", text(1, 3), api.Value{S: "a", L: []string{""}}},
		{"text in L", text(1, 3), textsOf("a")},
		{"texts below Lo", texts(2, 3, 1), textsOf("a")},
		{"texts beyond Hi", texts(0, 2, 1), textsOf("", "", "")},
		{"texts that wrap round", texts(0, 255, 1), textsOf(make([]string, 256)...)},
		{"first of texts beyond Most", texts(0, 3, 1), textsOf("ab", "", "a")},
		{"last of texts beyond Most", texts(0, 3, 1), textsOf("a", "", "ab")},
		{"texts beyond Most 0", texts(0, 3, 0), textsOf("a")},
		{"texts that wrap round in length", texts(0, 3, 65535), textsOf(long)},
		{"texts with N", texts(0, 2, 1), api.Value{N: 1, L: []string{"a"}}},
		{"texts with S", texts(0, 2, 1), api.Value{S: "a", L: []string{"a"}}},
		{"empty texts with S", texts(0, 2, 1), textOf("a")},
	} {
		places, _, _, _ := row()
		for i := range places {
			fields, values, _, _ := row()
			fields[i], values[i] = c.f, c.v
			// What comes later doesn't fit either, and is not told.
			for later := i + 1; later < len(values); later++ {
				values[later] = api.Value{N: -1}
			}
			b, err := Put(fields, values)
			if b != nil {
				t.Error(c.name, b)
			}
			refused(t, c.name, err, "gram.Put", i, api.ErrForm)
		}
	}
}

// P2.3: cut anywhere, the field that is not whole is told where it begins.
func TestCutShort(t *testing.T) {
	fields, _, encoding, begins := row()
	field := 0
	for cut := range encoding {
		if cut == begins[field+1] {
			field++
		}
		v, err := Get(fields, encoding[:cut])
		if v != nil {
			t.Error(v)
		}
		refused(t, "cut", err, "gram.Get", begins[field], api.ErrShort)
	}
}

// P2.3
func TestTooMany(t *testing.T) {
	fields, _, encoding, begins := row()
	for i := range begins {
		if i == len(fields) {
			encoding = append(encoding, 0)
		}
		v, err := Get(fields[:i], encoding)
		if v != nil {
			t.Error(v)
		}
		refused(t, "tail", err, "gram.Get", begins[i], api.ErrTail)
	}
	v, err := Get([]api.Field{texts(0, 0, 0)}, []byte{0, 0, 0})
	if v != nil {
		t.Error(v)
	}
	refused(t, "tail of an empty list", err, "gram.Get", 1, api.ErrTail)
}

// P2.3: each case is read alone, after other fields, and ahead of fields that are wrong too and not told.
func TestBytesThatAreRefused(t *testing.T) {
	for _, c := range []struct {
		name string
		f    api.Field
		b    []byte
		kind api.Errno
	}{
		{"no number", num(1, 0, 9), nil, api.ErrShort},
		{"half a number", num(2, 1, 1), []byte{9}, api.ErrShort},
		{"three of four bytes", num(4, 1, 1), []byte{255, 255, 255}, api.ErrShort},
		{"seven of eight bytes", num(8, 1, 1), []byte{255, 255, 255, 255, 255, 255, 255}, api.ErrShort},
		{"number below Lo", num(1, 3, 9), []byte{2}, api.ErrForm},
		{"number beyond Hi", num(1, 3, 9), []byte{10}, api.ErrForm},
		{"number of two bytes below Lo", num(2, 256, 300), []byte{255, 0}, api.ErrForm},
		{"number of two bytes beyond Hi", num(2, 0, 256), []byte{1, 1}, api.ErrForm},
		{"number of four bytes below Lo", num(4, 1<<31, 1<<31), []byte{255, 255, 255, 127}, api.ErrForm},
		{"number of four bytes beyond Hi", num(4, 0, 1<<32-2), []byte{255, 255, 255, 255}, api.ErrForm},
		{"number of eight bytes below Lo", num(8, 2, math.MaxInt), []byte{1, 0, 0, 0, 0, 0, 0, 0}, api.ErrForm},
		{"number of eight bytes beyond Hi", num(8, 0, math.MaxInt-1), []byte{255, 255, 255, 255, 255, 255, 255, 127}, api.ErrForm},
		{"number beyond all", num(8, 0, math.MaxInt), []byte{0, 0, 0, 0, 0, 0, 0, 128}, api.ErrForm},
		{"number of bytes 255", num(8, 0, math.MaxInt), []byte{255, 255, 255, 255, 255, 255, 255, 255}, api.ErrForm},
		{"no length", text(0, 9), nil, api.ErrShort},
		{"half a length", text(3, 9), []byte{255}, api.ErrShort},
		{"length below Lo", text(2, 9), []byte{1, 0}, api.ErrForm},
		{"length below Lo, all there", text(2, 9), []byte{1, 0, 'a'}, api.ErrForm},
		{"length beyond Hi", text(0, 3), []byte{4, 0}, api.ErrForm},
		{"length beyond Hi, all there", text(0, 3), []byte{4, 0, 'a', 'b', 'c', 'd'}, api.ErrForm},
		{"length beyond Hi in its upper byte", text(0, 255), []byte{0, 1}, api.ErrForm},
		{"greatest length", text(0, 65534), []byte{255, 255}, api.ErrForm},
		{"no text", text(0, 3), []byte{3, 0}, api.ErrShort},
		{"half a text", text(0, 3), []byte{3, 0, 'a', 'b'}, api.ErrShort},
		{"text in two bytes of length", text(0, 65535), slices.Concat([]byte{0, 1}, make([]byte, 255)), api.ErrShort},
		{"no count", texts(0, 3, 3), nil, api.ErrShort},
		{"count below Lo", texts(2, 3, 3), []byte{1}, api.ErrForm},
		{"count below Lo, all there", texts(2, 3, 3), []byte{1, 0, 0}, api.ErrForm},
		{"count beyond Hi", texts(0, 3, 3), []byte{4}, api.ErrForm},
		{"count beyond Hi 0", texts(0, 0, 3), []byte{1, 0, 0}, api.ErrForm},
		{"greatest count", texts(0, 254, 3), []byte{255}, api.ErrForm},
		{"no length of the first text", texts(0, 3, 3), []byte{1}, api.ErrShort},
		{"half a length of the first text", texts(0, 3, 3), []byte{1, 255}, api.ErrShort},
		{"no first text", texts(0, 3, 3), []byte{1, 3, 0}, api.ErrShort},
		{"half a first text", texts(0, 3, 3), []byte{1, 3, 0, 'a'}, api.ErrShort},
		{"no second text", texts(0, 3, 3), []byte{2, 1, 0, 'a'}, api.ErrShort},
		{"half a second text", texts(0, 3, 3), []byte{2, 0, 0, 2, 0, 'a'}, api.ErrShort},
		{"first length beyond Most", texts(0, 3, 3), []byte{3, 4, 0}, api.ErrForm},
		{"second length beyond Most", texts(0, 3, 3), []byte{2, 1, 0, 'a', 4, 0}, api.ErrForm},
		{"second length beyond Most, all there", texts(0, 3, 3), []byte{2, 1, 0, 'a', 4, 0, 'a', 'b', 'c', 'd'}, api.ErrForm},
		{"length beyond Most 0", texts(0, 3, 0), []byte{1, 1, 0, 'a'}, api.ErrForm},
		{"length beyond Most in its upper byte", texts(0, 3, 255), []byte{1, 0, 1}, api.ErrForm},
		{"greatest length beyond Most", texts(0, 3, 65534), []byte{1, 255, 255}, api.ErrForm},
	} {
		fields, _, encoding, _ := row()
		for _, before := range []bool{false, true} {
			own, bytes, at := []api.Field{c.f}, c.b, 0
			if before {
				own, bytes, at = append(fields, c.f), slices.Concat(encoding, c.b), len(encoding)
			}
			for _, next := range [][]api.Field{nil, {num(1, 200, 200)}, {num(8, 0, 0), text(9, 9)}} {
				v, err := Get(slices.Concat(own, next), bytes)
				if v != nil {
					t.Error(c.name, v)
				}
				refused(t, c.name, err, "gram.Get", at, c.kind)
			}
		}
	}
}

// P2.3, R5: bytes in the unused capacity are not there.
func TestCapacityIsNotRead(t *testing.T) {
	b := []byte{1, 0, 'a', 7}
	_, err := Get([]api.Field{text(1, 1), num(1, 0, 9)}, b[:3])
	refused(t, "number", err, "gram.Get", 3, api.ErrShort)
	_, err = Get([]api.Field{text(1, 1)}, b[:2])
	refused(t, "text", err, "gram.Get", 0, api.ErrShort)
	if v, err := Get([]api.Field{text(1, 1)}, b[:3]); err != nil || !same(v, []api.Value{textOf("a")}) {
		t.Error(v, err)
	}
}

// P2.4
func TestLeast(t *testing.T) {
	for _, c := range []struct {
		fields []api.Field
		want   int
	}{
		{nil, 0}, {[]api.Field{}, 0},
		{[]api.Field{num(1, 0, 9)}, 1}, {[]api.Field{num(2, 0, 9)}, 2}, {[]api.Field{num(4, 9, 9)}, 4}, {[]api.Field{num(8, 3, 9)}, 8},
		{[]api.Field{text(0, 9)}, 2}, {[]api.Field{text(4, 9)}, 6}, {[]api.Field{text(65535, 65535)}, 65537},
		{[]api.Field{texts(0, 9, 9)}, 1}, {[]api.Field{texts(3, 9, 9)}, 7}, {[]api.Field{texts(255, 255, 65535)}, 511},
		{[]api.Field{num(4, 0, 9), text(4, 9), texts(3, 9, 9), text(1, 1)}, 20},
	} {
		if got := Least(c.fields); got != c.want {
			t.Error(c.fields, got, c.want)
		}
	}
	fields, _, _, _ := row()
	for name, wrong := range wrongFields() {
		for i := range fields {
			own := slices.Clone(fields)
			own[i] = wrong
			if got := Least(own); got != 0 {
				t.Error(name, got)
			}
		}
	}
}

// small are grammars of which all values, over the letters 0 to 3, can be written out.
func small() [][]api.Field {
	return [][]api.Field{
		nil,
		{num(1, 0, 1)}, {num(1, 1, 2)}, {num(2, 0, 257)}, {num(2, 2, 2)}, {num(4, 1, 770)}, {num(8, 0, 2)},
		{text(0, 0)}, {text(0, 2)}, {text(1, 1)}, {text(2, 3)},
		{texts(0, 0, 0)}, {texts(0, 2, 1)}, {texts(1, 1, 2)}, {texts(2, 2, 0)}, {texts(0, 1, 3)},
		{num(1, 1, 1), text(0, 1)}, {text(0, 1), text(1, 1)}, {texts(0, 1, 1), num(1, 0, 2)}, {texts(0, 1, 0), texts(0, 1, 1)},
	}
}

// strings4 makes all byte strings of that length of the bytes 0 to 3.
func strings4(length int) []string {
	list := make([]string, 1<<(2*length))
	for digits := range list {
		b := make([]byte, length)
		for i := range b {
			b[i] = byte(digits >> (2 * i) & 3)
		}
		list[digits] = string(b)
	}
	return list
}

func allTexts(lo, hi int) (list []string) {
	for length := lo; length <= hi; length++ {
		list = append(list, strings4(length)...)
	}
	return list
}

func allLists(f api.Field) (all [][]string) {
	lists := [][]string{nil}
	for count := 0; count <= f.Hi; count++ {
		if count >= f.Lo {
			all = append(all, lists...)
		}
		var longer [][]string
		for _, list := range lists {
			for _, text := range allTexts(0, f.Most) {
				longer = append(longer, append(slices.Clone(list), text))
			}
		}
		lists = longer
	}
	return all
}

func allValues(f api.Field) (all []api.Value) {
	switch f.Kind {
	case api.FNum:
		for number := f.Lo; number <= f.Hi; number++ {
			all = append(all, numberOf(number))
		}
	case api.FText:
		for _, text := range allTexts(f.Lo, f.Hi) {
			all = append(all, textOf(text))
		}
	case api.FTexts:
		for _, list := range allLists(f) {
			all = append(all, textsOf(list...))
		}
	}
	return all
}

func allRows(fields []api.Field) [][]api.Value {
	rows := [][]api.Value{{}}
	for _, f := range fields {
		var longer [][]api.Value
		for _, row := range rows {
			for _, v := range allValues(f) {
				longer = append(longer, append(slices.Clone(row), v))
			}
		}
		rows = longer
	}
	return rows
}

// P2.5 and P2.4: of all byte strings of up to eight of the bytes 0 to 3, Get accepts those alone that Put makes, each
// as the values that it was made of; and the shortest has Least bytes.
func TestOnlyWhatPutMakes(t *testing.T) {
	var asked []string
	for length := range 9 {
		asked = append(asked, strings4(length)...)
	}
	for _, fields := range small() {
		made := map[string][]api.Value{}
		shortest := math.MaxInt
		for _, row := range allRows(fields) {
			b, err := Put(fields, row)
			if _, twice := made[string(b)]; err != nil || twice {
				t.Fatal(fields, row, b, err)
			}
			made[string(b)] = row
			shortest = min(shortest, len(b))
		}
		if got := Least(fields); got != shortest {
			t.Error(fields, got, shortest)
		}
		accepted := 0
		for _, b := range asked {
			v, err := Get(fields, []byte(b))
			row, there := made[b]
			if (err == nil) != there || !same(v, row) {
				t.Fatal(fields, []byte(b), v, err, "want", row)
			}
			if there {
				accepted++
			}
		}
		if accepted == 0 {
			t.Error(fields, "nothing was accepted")
		}
	}
}

// P2.5 and P2.3: with any one byte turned into any other, what is still accepted is what Put makes of it, and what is
// refused is told at a place up to which the fields ahead were read.
func TestTurnedBytes(t *testing.T) {
	fields, _, encoding, _ := row()
	for i := range encoding {
		for to := range 256 {
			b := slices.Clone(encoding)
			b[i] = byte(to)
			v, err := Get(fields, b)
			if err == nil {
				if again, err := Put(fields, v); err != nil || !bytes.Equal(again, b) {
					t.Error(i, to, v, again, err)
				}
				continue
			}
			_, at, _ := fault.Where(err)
			if v != nil || fault.First(err, api.ErrForm, api.ErrShort, api.ErrTail) < 0 || !fieldsEnd(fields, b, at) {
				t.Error(i, to, v, err, at)
			}
		}
	}
}

// fieldsEnd tells whether some of the fields, from the first on, end at that place of b.
func fieldsEnd(fields []api.Field, b []byte, at int) bool {
	if at < 0 || at > len(b) {
		return false
	}
	for count := range len(fields) + 1 {
		if _, err := Get(fields[:count], b[:at]); err == nil {
			return true
		}
	}
	return false
}

// R2: arguments stay, with what lies in their unused capacity.
func TestArgumentsStay(t *testing.T) {
	fields, values, encoding, _ := row()
	fields = append(fields, text(9, 9))
	values = append(values, textOf("unused"))
	values[2].L = append(values[2].L, "unused")
	encoding = append(encoding, 99)
	fields, values, encoding = fields[:len(fields)-1], values[:len(values)-1], encoding[:len(encoding)-1]
	values[2].L = values[2].L[:2]

	wasFields := slices.Clone(fields[:cap(fields)])
	wasEncoding := slices.Clone(encoding[:cap(encoding)])
	b, err := Put(fields, values)
	if err != nil {
		t.Fatal(err)
	}
	_, err = Get(fields, encoding)
	if err != nil {
		t.Fatal(err)
	}
	Least(fields)
	clear(b[:cap(b)])
	_, wasValues, _, _ := row()
	wasValues = append(wasValues, textOf("unused"))
	wasValues[2].L = append(wasValues[2].L, "unused")
	values = values[:len(values)+1]
	values[2].L = values[2].L[:3]
	if !slices.Equal(fields[:cap(fields)], wasFields) || !bytes.Equal(encoding[:cap(encoding)], wasEncoding) || !same(values, wasValues) {
		t.Error("an argument was changed")
	}
}

// R2: an answer shares nothing with an argument, with another answer, or within itself.
func TestAnswersAreNew(t *testing.T) {
	fields := []api.Field{texts(0, 9, 9), text(0, 9), texts(0, 9, 9)}
	b, err := Put(fields, []api.Value{textsOf("a", "b"), textOf("c"), textsOf("d")})
	if err != nil {
		t.Fatal(err)
	}
	was := slices.Clone(b)
	first, err := Get(fields, b)
	if err != nil {
		t.Fatal(err)
	}
	second, err := Get(fields, b)
	if err != nil {
		t.Fatal(err)
	}
	clear(b)
	if !same(first, []api.Value{textsOf("a", "b"), textOf("c"), textsOf("d")}) {
		t.Error("the answer changes with the bytes", first)
	}
	clear(first[0].L[:cap(first[0].L)])
	if !same(first, []api.Value{textsOf("", ""), textOf("c"), textsOf("d")}) {
		t.Error("two lists share memory", first)
	}
	clear(first[:cap(first)])
	if !same(second, []api.Value{textsOf("a", "b"), textOf("c"), textsOf("d")}) {
		t.Error("two answers share memory", second)
	}
	one, err := Put(fields, second)
	if err != nil {
		t.Fatal(err)
	}
	two, err := Put(fields, second)
	if err != nil {
		t.Fatal(err)
	}
	clear(one[:cap(one)])
	if !bytes.Equal(two, was) {
		t.Error("two encodings share memory", two)
	}
}

// The chapter's example runs.
func TestRuns(t *testing.T) {
	fields := []api.Field{num(2, 0, 999), text(1, 3), texts(0, 2, 1)}
	b, err := Put(fields, []api.Value{numberOf(258), textOf("ab"), textsOf("c")})
	if err != nil || !bytes.Equal(b, []byte{0x02, 0x01, 0x02, 0x00, 0x61, 0x62, 0x01, 0x01, 0x00, 0x63}) {
		t.Fatal(b, err)
	}
	_, err = Get(fields, b[:len(b)-1])
	refused(t, "without its last byte", err, "gram.Get", 6, api.ErrShort)
	b[0], b[1] = 1000&255, 1000>>8
	_, err = Get(fields, b)
	refused(t, "1000 instead of 258", err, "gram.Get", 0, api.ErrForm)
}
