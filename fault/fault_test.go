package fault

import (
	"errors"
	"math"
	"slices"
	"strconv"
	"testing"

	"stave/api"
)

// sample is an error that the chapter speaks of, with what it asks to be told of it.
type sample struct {
	name string
	err  error
	kind api.Errno
	loss api.Loss
	lost bool
	op   string
	at   int
	path []string
}

// samples are built of api.Fault itself, not of Wrap, so that a fault of Wrap doesn't hide one of the others.
func samples() []sample {
	loss := api.Loss{Group: 7, Have: 1, Need: 2}
	list := []sample{
		{name: "nil"},
		{name: "no kind", err: api.Errno(0)},
		{name: "unknown kind", err: api.Errno(99), kind: 99},
		{name: "kind below zero", err: api.Errno(-1), kind: -1},
		{name: "loss", err: loss, kind: api.ErrLost, loss: loss, lost: true},
		{name: "zero loss", err: api.Loss{}, kind: api.ErrLost, lost: true},
		{name: "fault around nothing", err: api.Fault{Op: "a", At: 4}, op: "a", at: 4, path: []string{"a"}},
		{name: "zero fault", err: api.Fault{}, path: []string{""}},
		{
			name: "faults around nothing", err: api.Fault{Op: "b", At: 5, Err: api.Fault{Op: "a", At: 4}},
			op: "a", at: 4, path: []string{"b", "a"},
		},
		{
			name: "fault around a kind", err: api.Fault{Op: "a", At: -4, Err: api.ErrForm},
			kind: api.ErrForm, op: "a", at: -4, path: []string{"a"},
		},
		{
			name: "faults around a kind", err: api.Fault{Op: "b", At: 2, Err: api.Fault{Op: "a", At: 1, Err: api.ErrFull}},
			kind: api.ErrFull, op: "a", at: 1, path: []string{"b", "a"},
		},
		{
			name: "faults around a loss", err: api.Fault{Op: "b", At: 2, Err: api.Fault{Op: "a", At: 1, Err: loss}},
			kind: api.ErrLost, loss: loss, lost: true, op: "a", at: 1, path: []string{"b", "a"},
		},
		{
			name: "faults without names", err: api.Fault{At: 9, Err: api.Fault{Err: api.ErrBig}},
			kind: api.ErrBig, path: []string{"", ""},
		},
	}
	for kind := api.ErrArg; kind <= api.ErrVersion; kind++ {
		list = append(list, sample{name: "kind " + strconv.Itoa(int(kind)), err: kind, kind: kind})
	}
	return list
}

// P1.1
func TestWrapNil(t *testing.T) {
	for _, at := range []int{0, 1, -1} {
		if err := Wrap("a", at, nil); err != nil {
			t.Error(at, err)
		}
	}
}

// P1.1
func TestWrapHoldsWhatItWasGiven(t *testing.T) {
	for _, s := range samples() {
		if s.err == nil {
			continue
		}
		for _, op := range []string{"", "a", "two words", "\x00\xff"} {
			for _, at := range []int{0, 1, -1, math.MaxInt, math.MinInt} {
				err := Wrap(op, at, s.err)
				var f api.Fault
				if !errors.As(err, &f) || f.Op != op || f.At != at || f.Err != s.err {
					t.Errorf("%s: Wrap(%q, %d) holds %q, %d, %v", s.name, op, at, f.Op, f.At, f.Err)
				}
				if !errors.Is(err, s.err) {
					t.Errorf("%s: Wrap(%q, %d) is not what it wraps", s.name, op, at)
				}
			}
		}
	}
}

// P1.2
func TestKind(t *testing.T) {
	for _, s := range samples() {
		if kind := Kind(s.err); kind != s.kind {
			t.Errorf("%s: kind %d, want %d", s.name, kind, s.kind)
		}
	}
}

// P1.3
func TestWhere(t *testing.T) {
	for _, s := range samples() {
		op, at, found := Where(s.err)
		if op != s.op || at != s.at || found != (len(s.path) > 0) {
			t.Errorf("%s: %q, %d, %v, want %q, %d", s.name, op, at, found, s.op, s.at)
		}
	}
}

// P1.3
func TestPath(t *testing.T) {
	for _, s := range samples() {
		if path := Path(s.err); !slices.Equal(path, s.path) {
			t.Errorf("%s: %q, want %q", s.name, path, s.path)
		}
	}
}

// P1.3, R2: what a caller does with an answer isn't seen in the next one.
func TestPathIsNew(t *testing.T) {
	err := Wrap("c", 3, Wrap("b", 2, Wrap("a", 1, api.ErrFull)))
	path := Path(err)
	clear(path[:cap(path)])
	if again := Path(err); !slices.Equal(again, []string{"c", "b", "a"}) {
		t.Errorf("%q", again)
	}
}

// P1.4
func TestLost(t *testing.T) {
	for _, s := range samples() {
		if loss, lost := Lost(s.err); loss != s.loss || lost != s.lost {
			t.Errorf("%s: %v, %v, want %v, %v", s.name, loss, lost, s.loss, s.lost)
		}
	}
}

// P1.4
func TestFirst(t *testing.T) {
	full := api.Fault{Op: "a", At: 1, Err: api.ErrFull}
	loss := api.Fault{Op: "a", At: 1, Err: api.Loss{Group: 1}}
	for _, c := range []struct {
		name string
		err  error
		list []api.Errno
		want int
	}{
		{"nothing asked", api.ErrFull, nil, -1},
		{"nothing asked, empty list", full, []api.Errno{}, -1},
		{"nil of nothing", nil, nil, -1},
		{"nil", nil, []api.Errno{0, api.ErrArg, api.ErrLost}, -1},
		{"fault around nothing", api.Fault{Op: "a"}, []api.Errno{0, api.ErrArg, api.ErrLost}, -1},
		{"the first", full, []api.Errno{api.ErrFull, api.ErrNone}, 0},
		{"the last", full, []api.Errno{api.ErrNone, api.ErrForm, api.ErrFull}, 2},
		{"none", full, []api.Errno{api.ErrNone, api.ErrForm, 0}, -1},
		{"twice", full, []api.Errno{api.ErrNone, api.ErrFull, api.ErrFull}, 1},
		{"bare", api.ErrFull, []api.Errno{api.ErrLost, api.ErrFull}, 1},
		{"no kind", api.Errno(0), []api.Errno{api.ErrArg, 0}, 1},
		{"unknown kind", api.Errno(99), []api.Errno{api.ErrArg, 99}, 1},
		{"loss", api.Loss{}, []api.Errno{0, api.ErrLost}, 1},
		{"wrapped loss", loss, []api.Errno{api.ErrArg, api.ErrLost, api.ErrLost}, 1},
		{"loss is nothing else", loss, []api.Errno{0, api.ErrArg, api.ErrUnavail, api.ErrVersion}, -1},
	} {
		if got := First(c.err, c.list...); got != c.want {
			t.Errorf("%s: %d, want %d", c.name, got, c.want)
		}
	}
}

// P1.4: among all kinds, each is found at its own place, a Loss at that of ErrLost.
func TestFirstAmongAll(t *testing.T) {
	var all []api.Errno
	for kind := api.ErrArg; kind <= api.ErrVersion; kind++ {
		all = append(all, kind)
	}
	for _, s := range samples() {
		want := slices.Index(all, s.kind)
		if got := First(s.err, all...); got != want {
			t.Errorf("%s: %d, want %d", s.name, got, want)
		}
	}
}

// P1.4, R2: the list is handed in as it stands, so that a change to it would be seen here.
func TestFirstLeavesItsList(t *testing.T) {
	list := []api.Errno{api.ErrVersion, api.ErrFull, api.ErrArg, api.ErrBig}
	was := slices.Clone(list)
	First(api.ErrArg, list[:2]...)
	First(api.ErrArg, list...)
	if !slices.Equal(list, was) {
		t.Error(list)
	}
}

// P1.5
func TestWrappingChangesNoAnswer(t *testing.T) {
	list := []api.Errno{0, -1, 99, api.ErrFull, api.ErrLost, api.ErrForm, api.ErrBig}
	for _, s := range samples() {
		first := First(s.err, list...)
		err := s.err
		for layer := 1; layer <= 1000; layer++ {
			err = Wrap("layer "+strconv.Itoa(layer), layer, err)
			if layer > 5 && layer < 1000 {
				continue
			}
			loss, lost := Lost(err)
			if Kind(err) != s.kind || loss != s.loss || lost != s.lost || First(err, list...) != first {
				t.Errorf("%s, %d layers: kind %d, loss %v, %v", s.name, layer, Kind(err), loss, lost)
			}
		}
	}
}

// P1.3, at the greatest depth that the chapter names.
func TestThousandLayers(t *testing.T) {
	var err error = api.ErrDown
	var want []string
	for i := range 1000 {
		op := strconv.Itoa(i)
		err = Wrap(op, i+1, err)
		want = append(want, op)
	}
	slices.Reverse(want)
	if path := Path(err); !slices.Equal(path, want) {
		t.Errorf("%d layers, want %d", len(path), len(want))
	}
	if op, at, found := Where(err); op != "0" || at != 1 || !found {
		t.Error(op, at, found)
	}
}

// The chapter's example runs.
func TestRuns(t *testing.T) {
	err := Wrap("b", 2, Wrap("a", 1, api.ErrFull))
	op, at, found := Where(err)
	if Kind(err) != api.ErrFull || op != "a" || at != 1 || !found {
		t.Error(Kind(err), op, at, found)
	}
	if !slices.Equal(Path(err), []string{"b", "a"}) || First(err, api.ErrNone, api.ErrFull) != 1 {
		t.Error(Path(err), First(err, api.ErrNone, api.ErrFull))
	}
	err = Wrap("c", 3, api.Loss{Group: 7, Have: 1, Need: 2})
	loss, lost := Lost(err)
	if Kind(err) != api.ErrLost || loss != (api.Loss{Group: 7, Have: 1, Need: 2}) || !lost || First(err, api.ErrLost) != 0 {
		t.Error(Kind(err), loss, lost, First(err, api.ErrLost))
	}
}
