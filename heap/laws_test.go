package heap

import (
	"math/rand"
	"testing"

	"fathom/api"
)

// tried is a heap with its history.
type tried struct {
	h   *Heap
	all history
}

func (x *tried) sizes() (int, int) { return x.all.count(callDelay, callPoison), x.all.count(callPair) }

// try asks the heap and its history, and keeps a call that wasn't refused.
func (x *tried) try(t *testing.T, c call) answer {
	t.Helper()
	want := x.all.answer(c)
	if got := ask(x.h, c); !sameAnswer(got, want) {
		t.Fatalf("behind %v: %v: %v, not %v", x.all, c, got, want)
	}
	if want.why == api.OK && c.method != callLook && c.method != callParts && c.method != callCounts {
		x.all = append(x.all, c)
	}
	return want
}

// whole expects that all of the heap is as its history says.
func (x *tried) whole(t *testing.T) {
	t.Helper()
	nodes, pairs := x.sizes()
	for at := range nodes + 2 {
		x.try(t, call{method: callLook, number: at})
	}
	for at := range pairs + 2 {
		x.try(t, call{method: callParts, number: at})
	}
	x.try(t, call{method: callCounts})
}

// P13.2 to P13.7

// A heap answers as the chapter's words say, read anew for each call out of the calls that weren't refused: so a refused
// one has changed nothing.
func TestAgainstTheWords(t *testing.T) {
	seen := map[method]map[api.Errno]int{}
	for seed := range int64(400) {
		d := drawer{rand.New(rand.NewSource(seed))}
		x := tried{h: New()}
		for range 10 + d.source.Intn(120) {
			c := d.call(x.sizes())
			why := x.try(t, c).why
			if seen[c.method] == nil {
				seen[c.method] = map[api.Errno]int{}
			}
			seen[c.method][why]++
		}
		x.whole(t)
	}
	for m, errors := range map[method][]api.Errno{
		callDelay: {api.OK}, callPoison: {api.OK}, callCounts: {api.OK}, callPair: {api.OK, api.ErrShape}, callLook: {api.OK, api.ErrRange},
		callParts: {api.OK, api.ErrRange}, callEnter: {api.OK, api.ErrRange, api.TrapLoop, api.TrapBottom},
		callUpdate: {api.OK, api.ErrRange, api.ErrShape},
	} {
		for _, why := range errors {
			if seen[m][why] < 50 {
				t.Errorf("method %d answered %d only %d times", m, why, seen[m][why])
			}
		}
	}
}

// P13.7

// Of several heaps, asked in turn, none is seen in another.
func TestHeapsApart(t *testing.T) {
	for seed := range int64(60) {
		d := drawer{rand.New(rand.NewSource(1000 + seed))}
		all := []*tried{{h: New()}, {h: New()}, {h: New()}}
		for range 200 {
			x := all[d.source.Intn(len(all))]
			x.try(t, d.call(x.sizes()))
		}
		for _, x := range all {
			x.whole(t)
		}
	}
}

// A node is entered while delayed at most once, and what is done stays.
func TestFoundAtMostOnce(t *testing.T) {
	for seed := range int64(200) {
		d := drawer{rand.New(rand.NewSource(2000 + seed))}
		h := New()
		x := tried{h: h}
		entered := map[int]int{}
		ends := map[int]api.Cell{}
		for range 150 {
			c := d.call(x.sizes())
			r := x.try(t, c)
			if c.method == callEnter && r.node.State == api.Delayed {
				entered[c.number]++
			}
			if c.method == callUpdate && r.why == api.OK {
				if _, is := ends[c.number]; is {
					t.Fatalf("node %d is done a second time", c.number)
				}
				ends[c.number] = c.a
			}
			for at, end := range ends {
				expectLook(t, h, at, done(end), api.OK)
			}
		}
		for at, times := range entered {
			if times != 1 {
				t.Errorf("node %d was entered while delayed %d times", at, times)
			}
		}
		_, updates := h.Counts()
		if updates != len(ends) || len(ends) > len(entered) {
			t.Errorf("%d updates, %d ends, %d entered", updates, len(ends), len(entered))
		}
	}
}

// refused are calls that a heap as mixed makes it must refuse.
func refused() []call {
	var all []call
	for _, at := range nowhere(5) {
		all = append(all, call{method: callLook, number: at}, call{method: callEnter, number: at}, call{method: callUpdate, number: at, a: none()})
	}
	for _, at := range nowhere(2) {
		all = append(all, call{method: callParts, number: at})
	}
	for _, at := range []int{1, 3} {
		all = append(all, call{method: callEnter, number: at})
	}
	for _, at := range []int{0, 2, 3, 4} {
		all = append(all, call{method: callUpdate, number: at, a: num(1)})
	}
	for _, bad := range noCells() {
		all = append(all, call{method: callPair, a: bad, b: none()}, call{method: callPair, a: none(), b: bad}, call{method: callUpdate, number: 1, a: bad})
	}
	return append(all, call{method: callUpdate, number: 1, a: node(0)}, call{method: callUpdate, number: 1, a: node(1)})
}

func TestRefusedChangesNothing(t *testing.T) {
	h := mixed(t)
	for _, c := range refused() {
		r := ask(h, c)
		if r.why == api.OK || !sameAnswer(r, answer{why: r.why}) {
			t.Errorf("%v: %v", c, r)
		}
		expectMixed(t, h)
	}
	expectDelay(t, h, 15, 5)
	expectPair(t, h, node(5), none(), 2, api.OK)
	expectUpdate(t, h, 1, cons(2), api.OK)
}

// What is there stays where it is, however much is made behind it.
func TestManyNodes(t *testing.T) {
	const many = 1 << 17
	h := New()
	for i := range many {
		if at, e := h.Delay(i * 3); at != i || e != api.OK {
			t.Fatalf("Delay: %d, %d; not %d", at, e, i)
		}
		tail := none()
		if i > 0 {
			tail = cons(i - 1)
		}
		if at, e := h.Pair(node(i), tail); at != i || e != api.OK {
			t.Fatalf("Pair: %d, %d; not %d", at, e, i)
		}
	}
	for i := many - 1; i >= 0; i -= 2 {
		expectEnter(t, h, i, delayed(i*3), api.OK)
		expectUpdate(t, h, i, cons(i), api.OK)
	}
	for i := range many {
		want := delayed(i * 3)
		if i%2 == 1 {
			want = done(cons(i))
		}
		expectLook(t, h, i, want, api.OK)
	}
	expectParts(t, h, many-1, node(many-1), cons(many-2), api.OK)
	expectCounts(t, h, many, many/2)
}
