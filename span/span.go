// Package span is layer 1: spans of bytes: see shared/doc/01-span.md.
package span

import "redpen/api"

// Check: is a span one of so many bytes?
func Check(s api.Span, n int) api.Errno {
	// At is taken from n, as the sum of At and Len may go beyond int.
	if s.At < 0 || s.Len < 0 || s.At > n || s.Len > n-s.At {
		return api.ErrRange
	}
	return api.OK
}

// End: where it ends.
func End(s api.Span) (int, api.Errno) {
	if !sound(s) {
		return 0, api.ErrRange
	}
	return end(s), api.OK
}

// Has: does a place lie in a span?
func Has(s api.Span, at int) bool {
	return sound(s) && at >= s.At && at < end(s)
}

// Meet: what both have; false: nothing.
func Meet(a, b api.Span) (api.Span, bool) {
	if !sound(a) || !sound(b) {
		return api.Span{}, false
	}
	from, to := max(a.At, b.At), min(end(a), end(b))
	if from >= to {
		return api.Span{}, false
	}
	return api.Span{At: from, Len: to - from}, true
}

// Join: the least span that has both, and whatever lies between.
func Join(a, b api.Span) (api.Span, api.Errno) {
	if !sound(a) || !sound(b) {
		return api.Span{}, api.ErrRange
	}
	from, to := min(a.At, b.At), max(end(a), end(b))
	return api.Span{At: from, Len: to - from}, api.OK
}

// Apart: do spans rise, none having what another has?
func Apart(l []api.Span) bool {
	last := 0
	for _, s := range l {
		if !sound(s) || s.At < last {
			return false
		}
		last = end(s)
	}
	return true
}

// Cover: are spans, none of them empty, one behind the other, all of so many bytes?
func Cover(l []api.Span, n int) bool {
	last := 0
	for _, s := range l {
		if !sound(s) || s.Len == 0 || s.At != last {
			return false
		}
		last = end(s)
	}
	return last == n
}

func sound(s api.Span) bool {
	return inFile(s.At) && inFile(s.Len)
}

func inFile(n int) bool {
	return n >= 0 && n <= api.MaxFile
}

// end is asked of sound spans alone: of others the sum may go beyond int.
func end(s api.Span) int {
	return s.At + s.Len
}
