// Package nums is layer 1: numbers as bytes, and pieces of texts. See shared/doc/01-nums.md.
package nums

import (
	"errors"
	"iter"
	"strings"

	"postrider/api"
)

const maxWidth = 8

var (
	errArg   = errors.New("nums: no such width")
	errNum   = errors.New("nums: no number, or none that the width has room for")
	errShort = errors.New("nums: no such place, or too few bytes from there on")
)

// Right tells whether n is a number.
func Right(n int) bool { return 0 <= n && n <= api.MaxNum }

// Bytes are those of the number n in a width, the greatest part first.
func Bytes(n int, width int) (string, api.Errno) { return tell(spread(n, width)) }

// Take is the number whose bytes in a width stand at a place of s.
func Take(s string, at int, width int) (int, api.Errno) { return tell(gather(s, at, width)) }

// Cut are n bytes of s from a place on.
func Cut(s string, at int, n int) (string, api.Errno) {
	part, e := tell(piece(s, at, n))
	// A piece of the same memory would keep the whole text in use.
	return strings.Clone(part), e
}

// Rest are all bytes of s from a place on.
func Rest(s string, at int) (string, api.Errno) { return Cut(s, at, len(s)-at) }

// pair is an answer and what is wrong: one of them alone counts.
type pair[T any] struct {
	answer T
	wrong  error
}

func good[T any](answer T) pair[T] { return pair[T]{answer: answer} }

func bad[T any](wrong error) pair[T] { return pair[T]{wrong: wrong} }

// tell drops the answer beside an error, so that no half-made one gets out.
func tell[T any](p pair[T]) (T, api.Errno) {
	if p.wrong != nil {
		var none T
		return none, number(p.wrong)
	}
	return p.answer, api.OK
}

func number(wrong error) api.Errno {
	switch {
	case errors.Is(wrong, errArg):
		return api.ErrArg
	case errors.Is(wrong, errNum):
		return api.ErrNum
	default:
		return api.ErrShort
	}
}

func rightWidth(width int) bool { return 1 <= width && width <= maxWidth }

func spread(n int, width int) pair[string] {
	if !rightWidth(width) {
		return bad[string](errArg)
	}
	// In the width 8 all bits are shifted out: every number fits there.
	if !Right(n) || n>>(8*width) != 0 {
		return bad[string](errNum)
	}
	return good(laid(n, width))
}

func laid(n int, width int) string {
	list := make([]byte, width)
	left := n
	lay := func(place int) {
		list[place] = byte(left)
		left >>= 8
	}
	for place := width - 1; place >= 0; place-- {
		lay(place)
	}
	return string(list)
}

func gather(s string, at int, width int) pair[int] {
	if !rightWidth(width) {
		return bad[int](errArg)
	}
	part := piece(s, at, width)
	if part.wrong != nil {
		return bad[int](part.wrong)
	}
	n := told(part.answer)
	if !Right(n) {
		return bad[int](errNum)
	}
	return good(n)
}

func told(s string) int {
	n := 0
bytes:
	for b := range each(s) {
		n = n<<8 | int(b)
		if !Right(n) {
			// Left here, n never wraps round, whatever stands behind.
			break bytes
		}
	}
	return n
}

func piece(s string, at int, n int) pair[string] {
	end := walk(s, at, n)
	if end.wrong != nil {
		return bad[string](end.wrong)
	}
	return good(s[at:end.answer])
}

// walk goes from place 0 of s on, step by step, and answers the last place.
func walk(s string, steps ...int) pair[int] {
	at := 0
	for _, step := range steps {
		// Held against what is left: at+step may wrap round.
		if step < 0 || step > len(s)-at {
			return bad[int](errShort)
		}
		at += step
	}
	return good(at)
}

func each(s string) iter.Seq[byte] {
	return func(yield func(byte) bool) {
		for i := range len(s) {
			if !yield(s[i]) {
				return
			}
		}
	}
}
