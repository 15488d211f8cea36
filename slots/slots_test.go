package slots_test

import (
	"cmp"
	"math"
	"math/bits"
	"slices"
	"testing"

	"plimsoll/api"
	"plimsoll/slots"
)

// model keeps each handle that was told, and whether it was given back: generations, free slots and live handles are counted from these, another way than the program's.
type model struct {
	n    int
	told []api.Handle
	back []bool
}

func (m *model) gen(slot int) int {
	count := 0
	for _, h := range m.told {
		if h.Slot == slot {
			count++
		}
	}
	return count
}

func (m *model) live(h api.Handle) bool {
	i := slices.Index(m.told, h)
	return i >= 0 && !m.back[i]
}

func (m *model) all() []api.Handle {
	var l []api.Handle
	for i, h := range m.told {
		if !m.back[i] {
			l = append(l, h)
		}
	}
	slices.SortFunc(l, func(a, b api.Handle) int { return cmp.Compare(a.Slot, b.Slot) })
	return l
}

func (m *model) take() (api.Handle, api.Errno) {
	for slot := range m.n {
		gen := m.gen(slot)
		if gen < 1000 && !m.live(api.Handle{Slot: slot, Gen: gen}) {
			h := api.Handle{Slot: slot, Gen: gen + 1}
			m.told = append(m.told, h)
			m.back = append(m.back, false)
			return h, api.OK
		}
	}
	return api.Handle{}, api.ErrSlots
}

func (m *model) give(h api.Handle) api.Errno {
	if !m.live(h) {
		return api.ErrStale
	}
	m.back[slices.Index(m.told, h)] = true
	return api.OK
}

func made(t *testing.T, n int) *slots.Slots {
	t.Helper()
	s, e := slots.New(n)
	if s == nil || e != api.OK {
		t.Fatalf("New(%d): %v, %d; want slots, OK", n, s, e)
	}
	return s
}

func wantTake(t *testing.T, s *slots.Slots, want api.Handle, wantE api.Errno) {
	t.Helper()
	if h, e := s.Take(); h != want || e != wantE {
		t.Fatalf("Take: %v, %d; want %v, %d", h, e, want, wantE)
	}
}

func wantGive(t *testing.T, s *slots.Slots, h api.Handle, want api.Errno) {
	t.Helper()
	if e := s.Give(h); e != want {
		t.Fatalf("Give(%v): %d; want %d", h, e, want)
	}
}

func wantLive(t *testing.T, s *slots.Slots, h api.Handle, want bool) {
	t.Helper()
	if live := s.Live(h); live != want {
		t.Fatalf("Live(%v): %v; want %v", h, live, want)
	}
}

func wantAll(t *testing.T, s *slots.Slots, want ...api.Handle) {
	t.Helper()
	if l := s.All(); !slices.Equal(l, want) {
		t.Fatalf("All: %v; want %v", l, want)
	}
	if n := s.Used(); n != len(want) {
		t.Fatalf("Used: %d; want %d", n, len(want))
	}
	for _, h := range want {
		wantLive(t, s, h, true)
	}
}

// beside are handles near h that differ from it: the nearest ones, those that are it modulo 64, 256 or 2^32, the utmost.
func beside(h api.Handle) []api.Handle {
	var l []api.Handle
	for _, by := range []int{1, -1, 2, -2, 64, -64, 256, -256, 1000, -1000, 1 << 32, -1 << 32, math.MaxInt, math.MinInt} {
		l = append(l, api.Handle{Slot: h.Slot + by, Gen: h.Gen}, api.Handle{Slot: h.Slot, Gen: h.Gen + by})
	}
	return append(l,
		api.Handle{Slot: h.Slot, Gen: -h.Gen - 1}, api.Handle{Slot: -h.Slot - 1, Gen: h.Gen},
		api.Handle{Slot: math.MinInt, Gen: math.MinInt}, api.Handle{Slot: math.MaxInt, Gen: math.MaxInt},
		api.Handle{Slot: math.MinInt, Gen: math.MaxInt}, api.Handle{Slot: math.MaxInt, Gen: math.MinInt})
}

// The chapter's example

func TestExample(t *testing.T) {
	s := made(t, 64)
	wantTake(t, s, api.Handle{Slot: 0, Gen: 1}, api.OK)
	wantTake(t, s, api.Handle{Slot: 1, Gen: 1}, api.OK)
	wantGive(t, s, api.Handle{Slot: 0, Gen: 1}, api.OK)
	wantTake(t, s, api.Handle{Slot: 0, Gen: 2}, api.OK)
	wantAll(t, s, api.Handle{Slot: 0, Gen: 2}, api.Handle{Slot: 1, Gen: 1})
}

// P6.1

func TestNew(t *testing.T) {
	for n := 1; n <= 64; n++ {
		wantAll(t, made(t, n))
	}
	for _, n := range []int{0, -1, -2, -64, 65, 66, 128, 256, 257, 1 << 32, 1<<32 + 1, -1<<32 + 1, math.MinInt, math.MinInt + 1, math.MaxInt} {
		if s, e := slots.New(n); s != nil || e != api.ErrArg {
			t.Errorf("New(%d): %v, %d; want none, ErrArg", n, s, e)
		}
	}
}

func TestNothingIsLiveAtFirst(t *testing.T) {
	s := made(t, 64)
	for slot := -2; slot < 70; slot++ {
		for gen := -1; gen <= 2; gen++ {
			h := api.Handle{Slot: slot, Gen: gen}
			wantLive(t, s, h, false)
			wantGive(t, s, h, api.ErrStale)
		}
	}
	wantAll(t, s)
	wantTake(t, s, api.Handle{Slot: 0, Gen: 1}, api.OK)
}

// TestTakeAll takes as many as there are, at each number of slots; one more is refused, and the refusal changes nothing.
func TestTakeAll(t *testing.T) {
	for n := 1; n <= 64; n++ {
		s := made(t, n)
		var all []api.Handle
		for slot := range n {
			h := api.Handle{Slot: slot, Gen: 1}
			wantLive(t, s, h, false)
			wantTake(t, s, h, api.OK)
			all = append(all, h)
			wantAll(t, s, all...)
		}
		for range 3 {
			wantTake(t, s, api.Handle{}, api.ErrSlots)
			wantAll(t, s, all...)
		}
		wantGive(t, s, api.Handle{Slot: n - 1, Gen: 1}, api.OK)
		wantTake(t, s, api.Handle{Slot: n - 1, Gen: 2}, api.OK)
		wantTake(t, s, api.Handle{}, api.ErrSlots)
	}
}

// TestTakeLeastFirst gives slots back in several orders: they are taken by their numbers, whatever the order.
func TestTakeLeastFirst(t *testing.T) {
	for step := 1; step < 64; step += 2 {
		s := made(t, 64)
		for slot := range 64 {
			wantTake(t, s, api.Handle{Slot: slot, Gen: 1}, api.OK)
		}
		for i := range 64 {
			wantGive(t, s, api.Handle{Slot: i * step % 64, Gen: 1}, api.OK)
			if n := s.Used(); n != 63-i {
				t.Fatalf("Used: %d; want %d", n, 63-i)
			}
		}
		for slot := range 64 {
			wantTake(t, s, api.Handle{Slot: slot, Gen: 2}, api.OK)
		}
		wantTake(t, s, api.Handle{}, api.ErrSlots)
	}
}

// TestStale has handles beside live ones, and those given back: they are refused, and the refusal changes nothing.
func TestStale(t *testing.T) {
	s := made(t, 3)
	zero, one, two := api.Handle{Slot: 0, Gen: 1}, api.Handle{Slot: 1, Gen: 1}, api.Handle{Slot: 2, Gen: 1}
	for _, h := range []api.Handle{zero, one, two} {
		wantTake(t, s, h, api.OK)
	}
	wantGive(t, s, zero, api.OK)
	wantGive(t, s, two, api.OK)
	stale := []api.Handle{{}, zero, two, {Slot: 0, Gen: 2}, {Slot: 2, Gen: 2}, {Slot: 3, Gen: 1}, {Slot: -1, Gen: 1}}
	for _, h := range append(stale, beside(one)...) {
		wantLive(t, s, h, false)
		wantGive(t, s, h, api.ErrStale)
		wantAll(t, s, one)
	}
	wantTake(t, s, api.Handle{Slot: 0, Gen: 2}, api.OK)
	for _, h := range []api.Handle{zero, two, {Slot: 0, Gen: 0}, {Slot: 0, Gen: 3}} {
		wantLive(t, s, h, false)
		wantGive(t, s, h, api.ErrStale)
		wantAll(t, s, api.Handle{Slot: 0, Gen: 2}, one)
	}
	wantTake(t, s, api.Handle{Slot: 2, Gen: 2}, api.OK)
	wantTake(t, s, api.Handle{}, api.ErrSlots)
}

// TestGiveTwice: a slot that was given back twice would be taken twice.
func TestGiveTwice(t *testing.T) {
	s := made(t, 2)
	h := api.Handle{Slot: 0, Gen: 1}
	wantTake(t, s, h, api.OK)
	wantGive(t, s, h, api.OK)
	wantGive(t, s, h, api.ErrStale)
	wantAll(t, s)
	wantTake(t, s, api.Handle{Slot: 0, Gen: 2}, api.OK)
	wantTake(t, s, api.Handle{Slot: 1, Gen: 1}, api.OK)
	wantTake(t, s, api.Handle{}, api.ErrSlots)
}

// TestLastGeneration: a slot of generation 1000 is passed over, and yet free; the next one is taken then.
func TestLastGeneration(t *testing.T) {
	s := made(t, 2)
	for gen := 1; gen <= 1000; gen++ {
		h := api.Handle{Slot: 0, Gen: gen}
		wantTake(t, s, h, api.OK)
		wantAll(t, s, h)
		if gen < 1000 {
			wantGive(t, s, h, api.OK)
		}
	}
	last, other := api.Handle{Slot: 0, Gen: 1000}, api.Handle{Slot: 1, Gen: 1}
	wantTake(t, s, other, api.OK)
	wantTake(t, s, api.Handle{}, api.ErrSlots)
	wantAll(t, s, last, other)
	wantGive(t, s, last, api.OK)
	wantGive(t, s, last, api.ErrStale)
	wantLive(t, s, last, false)
	wantLive(t, s, api.Handle{Slot: 0, Gen: 1001}, false)
	wantTake(t, s, api.Handle{}, api.ErrSlots)
	wantAll(t, s, other)
	for gen := 1; gen < 1000; gen++ {
		wantGive(t, s, api.Handle{Slot: 1, Gen: gen}, api.OK)
		wantTake(t, s, api.Handle{Slot: 1, Gen: gen + 1}, api.OK)
	}
	wantTake(t, s, api.Handle{}, api.ErrSlots)
	wantGive(t, s, api.Handle{Slot: 1, Gen: 1000}, api.OK)
	wantTake(t, s, api.Handle{}, api.ErrSlots)
	wantAll(t, s)
}

// hold has the program and the model do the same, and holds their answers against each other.
type hold struct {
	t *testing.T
	s *slots.Slots
	m *model
}

func (h hold) take() {
	h.t.Helper()
	want, wantE := h.m.take()
	wantTake(h.t, h.s, want, wantE)
}

func (h hold) give(x api.Handle) {
	h.t.Helper()
	wantGive(h.t, h.s, x, h.m.give(x))
}

func (h hold) look() {
	h.t.Helper()
	wantAll(h.t, h.s, h.m.all()...)
	for slot := -1; slot <= h.m.n; slot++ {
		for gen := range h.m.gen(slot) + 2 {
			x := api.Handle{Slot: slot, Gen: gen}
			wantLive(h.t, h.s, x, h.m.live(x))
		}
	}
}

// TestAllShortRuns goes through all runs of so many steps, each of which takes one, or gives back one of the first handles that slots have.
func TestAllShortRuns(t *testing.T) {
	for n := 1; n <= 3; n++ {
		kinds := []api.Handle{{}} // a step of which is to take
		for slot := range n {
			kinds = append(kinds, api.Handle{Slot: slot, Gen: 1}, api.Handle{Slot: slot, Gen: 2})
		}
		var run func(steps []api.Handle, more int)
		run = func(steps []api.Handle, more int) {
			if more > 0 {
				for _, x := range kinds {
					run(append(steps, x), more-1)
				}
				return
			}
			h := hold{t, made(t, n), &model{n: n}}
			for _, x := range steps {
				if x == (api.Handle{}) {
					h.take()
				} else {
					h.give(x)
				}
			}
			h.look()
		}
		run(nil, 8-n)
	}
}

// TestLongRuns goes without a pattern; it takes more often than it gives in one half of each run, and the other way round in the other.
func TestLongRuns(t *testing.T) {
	x := uint64(0x9e3779b97f4a7c15)
	upTo := func(n int) int {
		x = bits.RotateLeft64(x*0xd1342543de82ef95+1, 23)
		return int(x % uint64(n))
	}
	for n := 1; n <= 64; n++ {
		h := hold{t, made(t, n), &model{n: n}}
		for step := range 400 {
			all := h.m.all()
			often := 3
			if step%(4*n) >= 2*n {
				often = 1
			}
			switch {
			case upTo(4) < often:
				h.take()
			case len(all) > 0 && upTo(4) > 0:
				h.give(all[upTo(len(all))])
			case len(h.m.told) > 0:
				h.give(h.m.told[upTo(len(h.m.told))])
			default:
				h.give(api.Handle{Slot: upTo(n), Gen: upTo(3)})
			}
			wantAll(t, h.s, h.m.all()...)
		}
		h.look()
	}
}

// P6.2

// TestNoHandleTwice has all slots at their greatest number up to their last generation: each handle once, and none of them live again.
func TestNoHandleTwice(t *testing.T) {
	s := made(t, 64)
	told := map[api.Handle]int{}
	var live []api.Handle
	for {
		h, e := s.Take()
		if e == api.OK {
			told[h]++
			live = append(live, h)
		}
		// told here, since slots that never run out would be taken on and on
		if told[h] > 1 || h.Gen > 1000 {
			t.Fatalf("Take: %v, told %d times", h, told[h])
		}
		if e == api.OK && len(live) < 64 {
			continue
		}
		if e != api.OK && len(live) == 0 {
			break
		}
		// from the middle, so that neither the least nor the newest one comes back first
		i := len(live) / 2
		wantGive(t, s, live[i], api.OK)
		live = slices.Delete(live, i, i+1)
	}
	if len(told) != 64000 {
		t.Errorf("%d handles were told; want 64000", len(told))
	}
	for h := range told {
		if h.Slot < 0 || h.Slot > 63 || h.Gen < 1 {
			t.Errorf("%v was told", h)
		}
		wantLive(t, s, h, false)
		wantGive(t, s, h, api.ErrStale)
	}
	wantTake(t, s, api.Handle{}, api.ErrSlots)
	wantAll(t, s)
}

// TestGivenBackIsNeverLive asks after each step for each handle that was given back till then.
func TestGivenBackIsNeverLive(t *testing.T) {
	s := made(t, 2)
	var back []api.Handle
	for range 200 {
		for range 2 {
			h, e := s.Take()
			if e != api.OK || slices.Contains(back, h) {
				t.Fatalf("Take: %v, %d; given back already: %v", h, e, slices.Contains(back, h))
			}
		}
		for _, h := range s.All() {
			wantGive(t, s, h, api.OK)
			back = append(back, h)
			for _, x := range back {
				wantLive(t, s, x, false)
			}
		}
	}
}

// R1 and R4

func TestNil(t *testing.T) {
	var s *slots.Slots
	for _, h := range []api.Handle{{}, {Slot: 0, Gen: 1}, {Slot: -1, Gen: -1}, {Slot: math.MaxInt, Gen: math.MinInt}} {
		wantGive(t, s, h, api.ErrNil)
		wantLive(t, s, h, false)
	}
	wantTake(t, s, api.Handle{}, api.ErrNil)
	wantAll(t, s)
}

// TestZeroValue: what no call gave has no slots, and does not panic.
func TestZeroValue(t *testing.T) {
	s := new(slots.Slots)
	wantTake(t, s, api.Handle{}, api.ErrSlots)
	wantGive(t, s, api.Handle{}, api.ErrStale)
	wantLive(t, s, api.Handle{}, false)
	wantAll(t, s)
}

func TestSlotsAreApart(t *testing.T) {
	a, b := made(t, 2), made(t, 2)
	h := api.Handle{Slot: 0, Gen: 1}
	wantTake(t, a, h, api.OK)
	wantLive(t, b, h, false)
	wantGive(t, b, h, api.ErrStale)
	wantAll(t, b)
	wantTake(t, b, h, api.OK)
	wantGive(t, a, h, api.OK)
	wantLive(t, b, h, true)
	wantAll(t, a)
	wantAll(t, b, h)
}

// R3

// TestAllIsNewMemory writes into what was answered, its spare room too, and goes on.
func TestAllIsNewMemory(t *testing.T) {
	s := made(t, 5)
	var want []api.Handle
	for slot := range 3 {
		h := api.Handle{Slot: slot, Gen: 1}
		wantTake(t, s, h, api.OK)
		want = append(want, h)
	}
	first, second := s.All(), s.All()
	room := first[:cap(first)]
	for i := range room {
		room[i] = api.Handle{Slot: 4, Gen: 77}
	}
	if !slices.Equal(second, want) {
		t.Errorf("what was answered beside it: %v; want %v", second, want)
	}
	wantAll(t, s, want...)
	wantGive(t, s, want[0], api.OK)
	if !slices.Equal(second, want) {
		t.Errorf("what was answered ahead of Give: %v; want %v", second, want)
	}
	wantAll(t, s, want[1:]...)
	wantTake(t, s, api.Handle{Slot: 0, Gen: 2}, api.OK)
	wantTake(t, s, api.Handle{Slot: 3, Gen: 1}, api.OK)
}
