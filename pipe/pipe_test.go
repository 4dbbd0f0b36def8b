package pipe

import (
	"math"
	"math/rand"
	"reflect"
	"slices"
	"strconv"
	"testing"
	"time"

	"podesta/api"
)

// atOnce runs f and complains if it has not ended long after it should have.
func atOnce(t *testing.T, what string, f func()) {
	t.Helper()
	done := make(chan bool)
	go func() {
		defer close(done)
		f()
	}()
	select {
	case <-done:
	case <-time.After(time.Minute):
		t.Fatalf("%s: a call waits", what)
	}
}

// numbers is n numbers, of which no two are the same, and none is 0.
func numbers(n int) []int {
	l := make([]int, n)
	for i := range l {
		l[i] = 1 + i*3
	}
	return l
}

// filled is a new queue of this capacity with these elements.
func filled[T any](t *testing.T, most int, elements ...T) *Pipe[T] {
	t.Helper()
	p := New[T](most)
	for i, x := range elements {
		if !p.Put(x) {
			t.Errorf("Put %d of %d: false", i, len(elements))
		}
	}
	return p
}

// has complains unless Len and All return these elements, each time that they are called.
func has[T any](t *testing.T, what string, p *Pipe[T], want ...T) {
	t.Helper()
	for range 2 {
		if n := p.Len(); n != len(want) {
			t.Errorf("%s: Len: %d, not %d", what, n, len(want))
		}
		if all := p.All(); len(all) != len(want) || len(want) > 0 && !reflect.DeepEqual(all, want) {
			t.Errorf("%s: All: %v, not %v", what, all, want)
		}
	}
}

// gives complains unless Get returns want and true.
func gives[T any](t *testing.T, what string, p *Pipe[T], want T) {
	t.Helper()
	if x, ok := p.Get(); !ok || !reflect.DeepEqual(x, want) {
		t.Errorf("%s: Get: %v and %v, not %v and true", what, x, ok, want)
	}
}

// isEmpty complains unless Get returns the zero value and false each time that it is called, and nothing is there.
func isEmpty[T any](t *testing.T, what string, p *Pipe[T]) {
	t.Helper()
	var zero T
	for range 3 {
		if x, ok := p.Get(); ok || !reflect.DeepEqual(x, zero) {
			t.Errorf("%s: Get: %v and %v, not the zero value and false", what, x, ok)
		}
		has(t, what, p)
	}
}

// isFull complains unless Put returns false each time that it is called, and these elements stay.
func isFull[T any](t *testing.T, what string, p *Pipe[T], x T, want ...T) {
	t.Helper()
	for range 3 {
		if p.Put(x) {
			t.Errorf("%s: Put: true", what)
		}
		has(t, what, p, want...)
	}
}

// P11.1: the example.
func TestExample(t *testing.T) {
	p := New[int](1)
	if first, second := p.Put(7), p.Put(8); !first || second {
		t.Errorf("Put: %v, then %v", first, second)
	}
	has(t, "the example", p, 7)
}

// inOrder puts these elements into queues that have room for just as many, or for more, and gets them.
func inOrder[T any](t *testing.T, what string, elements ...T) {
	t.Helper()
	for _, room := range []int{0, 1, 5} {
		p := New[T](len(elements) + room)
		isEmpty(t, what+", new", p)
		for i, x := range elements {
			if !p.Put(x) {
				t.Errorf("%s: Put %d: false", what, i)
			}
			has(t, what+", put", p, elements[:i+1]...)
		}
		for i, x := range elements {
			gives(t, what, p, x)
			has(t, what+", got", p, elements[i+1:]...)
		}
		isEmpty(t, what+", all got", p)
	}
}

// P11.1: elements of several types, zero values and nil among them, come in the order in which they were put.
func TestTypes(t *testing.T) {
	one, two := 1, 2
	inOrder(t, "int", 3, 1, 2, 2, 0, -1, math.MinInt, math.MaxInt, 0)
	inOrder(t, "string", "b", "", "a", "a", "\xff\x00", "")
	inOrder(t, "bool", true, false, false, true)
	inOrder(t, "byte", byte(255), 0, 0, 128)
	inOrder(t, "float", 1.5, 0, math.Inf(-1), math.MaxFloat64)
	inOrder(t, "complex", 1i, 0, 2)
	inOrder(t, "struct", api.End{Unit: 1, Port: 2}, api.End{}, api.End{Unit: 1})
	inOrder(t, "struct of nothing", struct{}{}, struct{}{}, struct{}{})
	inOrder(t, "array", api.Head{api.Src: 9}, api.Head{}, api.Head{1, 2, 3})
	inOrder(t, "array of nothing", [0]int{}, [0]int{})
	inOrder(t, "slice", []byte("abc"), nil, []byte{}, []byte{0}, nil)
	inOrder(t, "map", map[string]int{"a": 1}, nil, map[string]int{}, nil)
	inOrder(t, "pointer", &two, nil, &one, &one, nil)
	inOrder[any](t, "interface", 1, nil, "text", []int{4}, &one, 0, nil)
	inOrder(t, "error", error(nil), strconv.ErrRange, nil)
	inOrder(t, "function", (func())(nil), nil)
	inOrder(t, "channel", make(chan int), nil, make(chan int, 1))
	inOrder(t, "queue", New[int](1), nil, New[int](2))
	inOrder(t, "message", api.Msg{Kind: api.MsgStats, Rules: []api.Rule{{Prio: 1}}}, api.Msg{}, api.Msg{Kind: api.MsgAsk})
}

// P11.1: a number that is not equal to itself.
func TestNaN(t *testing.T) {
	p := filled(t, 2, math.NaN(), 1)
	if all := p.All(); len(all) != 2 || !math.IsNaN(all[0]) || all[1] != 1 {
		t.Errorf("All: %v", all)
	}
	if x, ok := p.Get(); !ok || !math.IsNaN(x) {
		t.Errorf("Get: %v and %v", x, ok)
	}
	has(t, "behind it", p, 1)
}

// P11.1: pointers come back as the same ones, not as others to the same.
func TestSamePointers(t *testing.T) {
	a, b := new(int), new(int)
	p := filled(t, 3, a, b, a)
	if all := p.All(); !slices.Equal(all, []*int{a, b, a}) {
		t.Errorf("All: %v", all)
	}
	for i, want := range []*int{a, b, a} {
		if x, ok := p.Get(); !ok || x != want {
			t.Errorf("Get %d: %v and %v", i, x, ok)
		}
	}
}

// P11.1: elements that are too large for a channel's.
func TestLargeElements(t *testing.T) {
	first, second := [70000]byte{0: 1, 69999: 2}, [70000]byte{35000: 3}
	p := New[[70000]byte](2)
	if !p.Put(first) || !p.Put(second) || p.Put(first) {
		t.Error("Put")
	}
	if all := p.All(); len(all) != 2 || all[0] != first || all[1] != second {
		t.Error("All")
	}
	for i, want := range [][70000]byte{first, second} {
		if x, ok := p.Get(); !ok || x != want {
			t.Errorf("Get %d", i)
		}
	}
	if x, ok := p.Get(); ok || x != [70000]byte{} {
		t.Error("Get of none")
	}
}

// capacities are arguments of New, with the capacities of the queues.
func capacities() map[int]int {
	return map[int]int{
		0: 0, 1: 1, 2: 2, 3: 3, 10: 10, 255: 255, 256: 256, 4095: 4095, 4096: 4096,
		4097: 4096, 4098: 4096, 5000: 4096, 8192: 4096, 65536: 4096, 1 << 30: 4096, math.MaxInt - 1: 4096, math.MaxInt: 4096,
		-1: 0, -2: 0, -4096: 0, -4097: 0, -1 << 30: 0, math.MinInt + 1: 0, math.MinInt: 0,
	}
}

// P11.1: the capacity is most, but from 0 to MaxPipe; the first Get of a full queue makes room for one Put.
func TestCapacity(t *testing.T) {
	for most, capacity := range capacities() {
		what := "New(" + strconv.Itoa(most) + ")"
		atOnce(t, what, func() {
			p := New[int](most)
			isEmpty(t, what, p)
			l := numbers(capacity)
			for i, x := range l {
				if p.Len() != i || !p.Put(x) {
					t.Errorf("%s: Put %d: false, or Len: %d", what, i, p.Len())
				}
			}
			isFull(t, what, p, -5, l...)
			if capacity == 0 {
				return
			}
			gives(t, what, p, l[0])
			has(t, what+", one got", p, l[1:]...)
			if !p.Put(-6) {
				t.Errorf("%s: Put after Get: false", what)
			}
			l = append(l[1:], -6)
			isFull(t, what+", full again", p, -5, l...)
			for _, x := range l {
				gives(t, what, p, x)
			}
			isEmpty(t, what+", all got", p)
			if !p.Put(8) {
				t.Errorf("%s: Put after all was got: false", what)
			}
			has(t, what+", after all was got", p, 8)
		})
	}
}

// P11.1: Put on a full queue, and Get between: each Get makes room for one.
func TestFull(t *testing.T) {
	p := filled(t, 3, "a", "b", "c")
	isFull(t, "full", p, "d", "a", "b", "c")
	isFull(t, "full, the zero value", p, "", "a", "b", "c")
	gives(t, "full", p, "a")
	gives(t, "full", p, "b")
	if !p.Put("d") || !p.Put("") {
		t.Error("Put after Get: false")
	}
	isFull(t, "full again", p, "e", "c", "d", "")
	gives(t, "full again", p, "c")
	gives(t, "full again", p, "d")
	gives(t, "full again", p, "")
	isEmpty(t, "all got", p)
}

// P11.1: Get on an empty queue returns the zero value, also when other values were there before.
func TestEmpty(t *testing.T) {
	isEmpty(t, "int", New[int](2))
	isEmpty(t, "struct", New[api.Msg](2))
	isEmpty(t, "pointer", New[*int](2))
	isEmpty(t, "slice", New[[]int](2))
	isEmpty(t, "interface", New[any](2))
	p := filled(t, 2, api.End{Unit: 3, Port: 4})
	gives(t, "the only one", p, api.End{Unit: 3, Port: 4})
	isEmpty(t, "all got", p)
	if !p.Put(api.End{Port: 5}) || !p.Put(api.End{}) {
		t.Error("Put after Get of none: false")
	}
	has(t, "put again", p, api.End{Port: 5}, api.End{})
}

// P11.1: Put and Get in turn, many times over, with each number of elements in the queue.
func TestInTurn(t *testing.T) {
	for _, capacity := range []int{1, 2, 3, 7, 64} {
		for waiting := range capacity {
			what := strconv.Itoa(waiting) + " of " + strconv.Itoa(capacity)
			p := filled(t, capacity, numbers(waiting)...)
			want := numbers(waiting)
			for round := range 3*capacity + 2 {
				if !p.Put(-round) {
					t.Fatalf("%s: Put in round %d: false", what, round)
				}
				want = append(want, -round)
				has(t, what+", put", p, want...)
				if len(want) == capacity {
					isFull(t, what, p, 5, want...)
				}
				gives(t, what, p, want[0])
				want = want[1:]
				has(t, what+", got", p, want...)
				if len(want) == 0 {
					isEmpty(t, what, p)
				}
			}
		}
	}
}

// P11.1: the same in a queue of MaxPipe, and far more elements in all.
func TestLargestInTurn(t *testing.T) {
	for _, waiting := range []int{0, 1, 2, api.MaxPipe - 2, api.MaxPipe - 1} {
		p := New[int](api.MaxPipe)
		next, first := 0, 0
		for ; next < waiting; next++ {
			p.Put(next)
		}
		for range 3 * api.MaxPipe {
			ok := p.Put(next)
			next++
			x, got := p.Get()
			if !ok || !got || x != first || p.Len() != waiting {
				t.Fatalf("with %d: Put: %v, Get: %d and %v, not %d, Len: %d", waiting, ok, x, got, first, p.Len())
			}
			first++
		}
		all := p.All()
		for i, x := range all {
			if x != first+i {
				t.Fatalf("with %d: All has %d at %d", waiting, x, i)
			}
		}
		if len(all) != waiting {
			t.Errorf("All: %d elements, not %d", len(all), waiting)
		}
	}
}

// P11.1: All between any calls leaves the elements and their order as they were, also in a full queue.
func TestAllChangesNothing(t *testing.T) {
	for n := range 8 {
		for extra := range 3 {
			for got := range n + 1 {
				what := strconv.Itoa(n) + " elements, room for " + strconv.Itoa(extra) + " more, " + strconv.Itoa(got) + " got"
				p := filled(t, n+extra, numbers(n)...)
				for range got {
					p.All()
					p.Get()
				}
				has(t, what, p, numbers(n)[got:]...)
				for _, x := range numbers(n)[got:] {
					gives(t, what, p, x)
					p.All()
				}
				isEmpty(t, what, p)
			}
		}
	}
}

// P11.1: no call waits, nor do many of them, on queues that are empty, full, without room, zero or nil.
func TestNeverWaits(t *testing.T) {
	queues := map[string]func() *Pipe[int]{
		"empty":       func() *Pipe[int] { return New[int](2) },
		"half full":   func() *Pipe[int] { return filled(t, 2, 1) },
		"full":        func() *Pipe[int] { return filled(t, 2, 1, 2) },
		"no room":     func() *Pipe[int] { return New[int](0) },
		"less than 0": func() *Pipe[int] { return New[int](-1) },
		"zero":        func() *Pipe[int] { return &Pipe[int]{} },
		"nil":         func() *Pipe[int] { return nil },
	}
	calls := map[string]func(*Pipe[int]){
		"Put": func(p *Pipe[int]) { p.Put(3) },
		"Get": func(p *Pipe[int]) { p.Get() },
		"Len": func(p *Pipe[int]) { p.Len() },
		"All": func(p *Pipe[int]) { p.All() },
	}
	for kind, queue := range queues {
		for name, call := range calls {
			atOnce(t, name+", "+kind, func() {
				p := queue()
				for range 5 {
					call(p)
				}
			})
		}
	}
}

// P11.1: a nil *Pipe.
func TestNil(t *testing.T) {
	var p *Pipe[string]
	for range 2 {
		if p.Put("a") || p.Put("") {
			t.Error("Put: true")
		}
		if x, ok := p.Get(); ok || x != "" {
			t.Errorf("Get: %q and %v", x, ok)
		}
		if n := p.Len(); n != 0 {
			t.Errorf("Len: %d", n)
		}
		if all := p.All(); all != nil {
			t.Errorf("All: %q, not nil", all)
		}
	}
	isEmpty(t, "of pointers", (*Pipe[*int])(nil))
	isEmpty(t, "of structs", (*Pipe[api.Msg])(nil))
	isFull(t, "of pointers", (*Pipe[*int])(nil), nil)
	isFull(t, "of structs", (*Pipe[api.Msg])(nil), api.Msg{Kind: 1})
}

// R1: a Pipe that New did not make has room for nothing.
func TestZero(t *testing.T) {
	p := &Pipe[int]{}
	isFull(t, "zero", p, 1)
	isEmpty(t, "zero", p)
}

// P11.1: New returns another queue each time, which knows nothing of the earlier ones.
func TestApart(t *testing.T) {
	a, b := New[int](2), New[int](2)
	if a == b {
		t.Fatal("the same Pipe twice")
	}
	a.Put(1)
	has(t, "a", a, 1)
	isEmpty(t, "b", b)
	b.Put(2)
	b.Put(3)
	isFull(t, "b", b, 4, 2, 3)
	a.Put(5)
	isFull(t, "a", a, 6, 1, 5)
	gives(t, "b", b, 2)
	has(t, "a", a, 1, 5)
	has(t, "b", b, 3)
	isEmpty(t, "new", New[int](2))
	other := filled(t, 2, "x")
	has(t, "a", a, 1, 5)
	has(t, "of strings", other, "x")
}

// R4: the slices that All returns share no memory with one another, nor with what the Pipe keeps.
func TestAllMemory(t *testing.T) {
	for n := range 20 {
		p := filled(t, n+1, numbers(n)...)
		first, second := p.All(), p.All()
		for i := range first {
			first[i] = -9
		}
		full := first[:cap(first)]
		for i := range full {
			full[i] = -8
		}
		_ = append(first, -7, -6, -5)
		if !slices.Equal(second, numbers(n)) {
			t.Errorf("%d elements: two results share memory", n)
		}
		has(t, "the result is changed", p, numbers(n)...)
		third := p.All()
		_ = append(third[:0], -4)
		_ = append(third, -3)
		p.Put(-2)
		has(t, "the result is appended to", p, append(numbers(n), -2)...)
		for _, x := range append(numbers(n), -2) {
			gives(t, "the results are changed", p, x)
		}
		if !slices.Equal(second, numbers(n)) {
			t.Errorf("%d elements: a result has changed by later calls", n)
		}
	}
}

// R4: arrays in an element are copied, when they are put as well as when they are returned.
func TestElementMemory(t *testing.T) {
	h := api.Head{1, 2}
	p := filled(t, 3, h, h)
	h[0] = 7
	has(t, "the argument is changed", p, api.Head{1, 2}, api.Head{1, 2})
	all := p.All()
	all[0][1], all[1][0] = 8, 8
	has(t, "the result of All is changed", p, api.Head{1, 2}, api.Head{1, 2})
	all = p.All()
	x, _ := p.Get()
	x[0] = 9
	if all[0] != (api.Head{1, 2}) {
		t.Error("the results of Get and All share memory")
	}
	p.Put(x)
	x[0] = 10
	has(t, "put again and changed", p, api.Head{1, 2}, api.Head{9, 2})
}

// R4: slices that are elements are returned as they were put, and not written into.
func TestSlicesUntouched(t *testing.T) {
	array := []byte("0123456789")
	p := filled(t, 2, array[:3], array[3:6])
	p.All()
	p.Get()
	p.Put(array[6:8])
	p.All()
	p.Get()
	p.Get()
	if string(array) != "0123456789" {
		t.Errorf("the elements are changed: %q", array)
	}
}

// plainQueue is what the chapter says of a Pipe, as directly as can be.
type plainQueue struct {
	most     int
	elements []int
}

func (q *plainQueue) put(x int) bool {
	if len(q.elements) >= q.most {
		return false
	}
	q.elements = append(q.elements, x)
	return true
}

func (q *plainQueue) get() (int, bool) {
	if len(q.elements) == 0 {
		return 0, false
	}
	x := q.elements[0]
	q.elements = slices.Clone(q.elements[1:])
	return x, true
}

// P11.1: many calls in any order; twice the same calls have the same results (R5).
func TestManyCalls(t *testing.T) {
	random := rand.New(rand.NewSource(11))
	for round := range 300 {
		most := random.Intn(12)
		puts := 1 + random.Intn(9) // of ten calls
		plain := &plainQueue{most: most}
		queues := []*Pipe[int]{New[int](most), New[int](most)}
		for step := range 200 {
			what := "round " + strconv.Itoa(round) + ", step " + strconv.Itoa(step)
			if random.Intn(10) < puts {
				want := plain.put(step)
				for _, p := range queues {
					if ok := p.Put(step); ok != want {
						t.Fatalf("%s: Put: %v", what, ok)
					}
				}
			} else {
				want, ok := plain.get()
				for _, p := range queues {
					if x, got := p.Get(); x != want || got != ok {
						t.Fatalf("%s: Get: %d and %v, not %d and %v", what, x, got, want, ok)
					}
				}
			}
			// The second queue is looked at rarely: that must make no difference.
			has(t, what, queues[0], plain.elements...)
			if step%50 == 49 {
				has(t, what, queues[1], plain.elements...)
			}
		}
	}
}
