// Package cats is layer 1, sets of categories: see shared/doc/01-cats.md.
package cats

import (
	"errors"
	"iter"
	"math/bits"

	"plimsoll/api"
)

var errNone = errors.New("no category")

// set has the methods that a picker needs, which a bare number can't have.
type set uint64

// has judges first, since a shift by a number below 0 panics.
func (s set) has(i int) bool {
	return judge(i) == nil && s>>i&1 == 1
}

// add leaves it to its caller to judge i.
func (s *set) add(i int) {
	*s |= 1 << i
}

// rising yields the categories, the least one first: one set has one list.
func (s set) rising() iter.Seq[int] {
	return func(yield func(int) bool) {
		for i := range api.MaxCats {
			if s.has(i) && !yield(i) {
				return
			}
		}
	}
}

// picker stands between numbers, right or not, and the set that they go into.
type picker struct {
	set
}

// pick goes no further than the first number that is no category: its set is of no use then.
func (p *picker) pick(numbers ...int) error {
	var wrong error
picking:
	for i, err := range judged(numbers...) {
		switch {
		case err != nil:
			wrong = err
			break picking
		default:
			p.add(i)
		}
	}
	return wrong
}

// judged yields each number beside what is wrong with it, so that who goes through them can't forget to ask.
func judged(numbers ...int) iter.Seq2[int, error] {
	return func(yield func(int, error) bool) {
		for _, i := range numbers {
			if !yield(i, judge(i)) {
				return
			}
		}
	}
}

func judge(i int) error {
	if i < 0 || i >= api.MaxCats {
		return errNone
	}
	return nil
}

// join is s and the numbers together; beside an error nothing is told of either.
func join(s uint64, numbers ...int) (uint64, api.Errno) {
	p := picker{set: set(s)}
	if err := p.pick(numbers...); errors.Is(err, errNone) {
		return 0, api.ErrCats
	}
	return uint64(p.set), api.OK
}

// Of is the set of the categories of l, in whatever order, however often one comes.
func Of(l []int) (uint64, api.Errno) {
	return join(0, l...)
}

// List are the categories of s, rising.
func List(s uint64) []int {
	l := make([]int, 0, Count(s))
	for i := range set(s).rising() {
		l = append(l, i)
	}
	return l
}

// Has tells whether category i is in s; what is no category is in no set.
func Has(s uint64, i int) bool {
	return set(s).has(i)
}

// With is s with category i.
func With(s uint64, i int) (uint64, api.Errno) {
	return join(s, i)
}

// Without is s without category i.
func Without(s uint64, i int) (uint64, api.Errno) {
	one, e := join(0, i)
	if e != api.OK {
		return 0, e
	}
	return Less(s, one), api.OK
}

// Sub tells whether each category of a is one of b.
func Sub(a uint64, b uint64) bool {
	return Less(a, b) == 0
}

// Less is the set of the categories of a that are none of b's.
func Less(a uint64, b uint64) uint64 {
	return a &^ b
}

// Count is how many categories s has.
func Count(s uint64) int {
	return bits.OnesCount64(s)
}
