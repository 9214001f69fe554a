// Package fault says where an error came to be, layer by layer, and finds out again what lies under the layers.
package fault

import (
	"errors"

	"stave/api"
)

// Wrap puts the operation and the position where err came to be around it. No error stays no error, so that a
// caller can hand on what a lower layer answered without asking first.
func Wrap(op string, at int, err error) error {
	if err == nil {
		return nil
	}
	return api.Fault{Op: op, At: at, Err: err}
}

// Kind tells the Errno under all layers, 0 if there is none. A Loss carries no Errno that errors.As could find: it
// only is an ErrLost, so that has to be asked apart.
func Kind(err error) api.Errno {
	var kind api.Errno
	if errors.As(err, &kind) {
		return kind
	}
	if errors.Is(err, api.ErrLost) {
		return api.ErrLost
	}
	return 0
}

// Where tells the innermost layer, since that is where the error came to be, and whether there is one.
func Where(err error) (string, int, bool) {
	var inner api.Fault
	found := false
	for errors.As(err, &inner) {
		found = true
		err = inner.Err
	}
	return inner.Op, inner.At, found
}

// Path tells the operations of all layers, the outermost first.
func Path(err error) []string {
	var ops []string
	var layer api.Fault
	for errors.As(err, &layer) {
		ops = append(ops, layer.Op)
		err = layer.Err
	}
	return ops
}

// Lost tells the Loss under all layers, and whether there is one. A bare ErrLost is none: it has nothing to tell.
func Lost(err error) (api.Loss, bool) {
	var loss api.Loss
	found := errors.As(err, &loss)
	return loss, found
}

// First tells the place of the first kind in l that err is, or -1.
func First(err error, l ...api.Errno) int {
	for i, kind := range l {
		if errors.Is(err, kind) {
			return i
		}
	}
	return -1
}
