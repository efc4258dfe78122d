// Package wraps goes over what an error wraps, and comes to an end where errors.Is and errors.As would not: at errors that lead back into themselves, or that wrap ever more.
package wraps

import (
	"iter"
	"slices"
)

const (
	// An error that wraps another holds 16 bytes at least: in the 2^31 - 1 bytes of which the promises speak there is no room for a chain of so many, nor for so many lists.
	most = 1 << 27
	// So many lists are gone into that are made anew each time, and so aren't known by where they lie.
	mostFresh = 1 << 18
	// So many steps are made in all.
	mostSteps = 1 << 31
	// Behind so many steps, behind so many times as many, and so on, it is looked at whether they lead back to where they were, for so many steps each time.
	firstLook, apart, look = 1 << 8, 1 << 12, 1 << 7
)

// Each: of an error and all that it wraps those that are a T, or say by methods of their own what they are, in the order of errors.Is and errors.As. Each stands alone, without what it wraps, to be asked for a T by errors.Is and errors.As. (One that leads back into itself may come more than once.) P is a kind of pointers, of which rings of any length are found at once.
func Each[T, P error](err error) iter.Seq[error] {
	return func(yield func(error) bool) {
		w := walk{open: []error{err}, seen: map[list]struct{}{}, fresh: glance{next: firstLook}, cheap: is[P]}
		alone := func(e error) bool { return !tells[T](e) || yield(part[T]{e}) }
		for len(w.open) > 0 && w.chain(alone) {
		}
	}
}

// is: is an error of that kind?
func is[P error](err error) bool {
	_, ok := err.(P)
	return ok
}

// tells: is an error a T, or has it methods by which it may say so?
func tells[T error](err error) bool {
	switch err.(type) {
	case T, interface{ Is(error) bool }, interface{ As(any) bool }:
		return true
	}
	return false
}

// part is an error without what it wraps.
type part[T error] struct{ error }

// Is: is it that error, or does it say so itself?
func (p part[T]) Is(target error) bool {
	return same(p.error, target) || holds(func() bool {
		if x, ok := p.error.(interface{ Is(error) bool }); ok {
			return x.Is(target)
		}
		return false
	})
}

// As: is it a T, or does it give itself out as what is wanted?
func (p part[T]) As(target any) bool {
	if t, ok := target.(*T); ok {
		if v, ok := p.error.(T); ok {
			*t = v
			return true
		}
	}
	return holds(func() bool {
		if x, ok := p.error.(interface{ As(any) bool }); ok {
			return x.As(target)
		}
		return false
	})
}

// walk is the way through all that an error wraps.
type walk struct {
	open  []error           // whence to go on, the next one last
	seen  map[list]struct{} // the lists that were gone into
	fresh glance            // the errors that make their lists anew each time
	steps int               // how many were made
	cheap func(error) bool  // which errors are cheap to compare
}

// list is where several errors lie, and how many: by that they are known again.
type list struct {
	first *error
	count int
}

// chain goes from the next open error along those that wrap one each, and opens the list of one that wraps several; false: no more is wanted, or there was too much.
func (w *walk) chain(yield func(error) bool) bool {
	last := len(w.open) - 1
	err := w.open[last]
	w.open = w.open[:last]
	var r ring
	g := glance{next: firstLook}
	for err != nil && !(w.cheap(err) && r.closed(err)) && !g.closed(err) {
		w.steps++
		if w.steps > mostSteps || !yield(err) {
			return false
		}
		one, several := within(err)
		if len(several) > 0 && !w.known(err, several) {
			w.add(several)
		}
		err = one
	}
	return true
}

// add opens a list, its first one to come next.
func (w *walk) add(several []error) {
	for _, e := range slices.Backward(several) {
		w.open = append(w.open, e)
	}
}

// known tells whether an error's list isn't to be gone into, as it was already, or as there were too many: else a ring would be gone round in for ever, and what is shared gone over as often as there are ways to it.
func (w *walk) known(err error, several []error) bool {
	here := list{&several[0], len(several)}
	_, again := within(err)
	if len(again) != here.count || &again[0] != here.first {
		return w.fresh.closed(err) || w.fresh.steps > mostFresh
	}
	if _, ok := w.seen[here]; ok || len(w.seen) == most {
		return true
	}
	w.seen[here] = struct{}{}
	return false
}

// ring finds out whether steps lead back to where they were, by a mark that is left ever farther on.
type ring struct {
	mark        error
	steps, next int
}

// closed: were they here already?
func (r *ring) closed(err error) bool {
	r.steps++
	if same(r.mark, err) {
		return true
	}
	if r.steps >= r.next {
		r.mark, r.next = err, 2*r.steps
	}
	return false
}

// glance finds out the same of whatever errors, for a few steps now and then only: two that hold others within themselves, and not by pointers, are dear to compare.
type glance struct {
	mark        error
	steps, next int
}

// closed: were they here already, or are they too many to end?
func (g *glance) closed(err error) bool {
	g.steps++
	switch {
	case g.steps < g.next:
		return g.steps > most
	case g.steps == g.next+look:
		g.mark, g.next = nil, apart*g.next
	case g.mark != nil:
		return same(g.mark, err)
	case same(err, err):
		// One that can't be compared wouldn't be known again.
		g.mark = err
	}
	return false
}

// within is what an error wraps: one, or several; nothing, if it panics.
func within(err error) (one error, several []error) {
	defer func() {
		if recover() != nil {
			one, several = nil, nil
		}
	}()
	switch x := err.(type) {
	case interface{ Unwrap() error }:
		one = x.Unwrap()
	case interface{ Unwrap() []error }:
		several = x.Unwrap()
	}
	return one, several
}

// same: are they one error? False of such as can't be compared.
func same(a, b error) bool {
	return holds(func() bool { return a == b })
}

// holds is what ask answers; false, if it panics: errors from outside bring methods of their own, and some can't be compared.
func holds(ask func() bool) (ok bool) {
	defer func() {
		if recover() != nil {
			ok = false
		}
	}()
	return ask()
}
