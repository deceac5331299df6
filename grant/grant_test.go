package grant

import (
	"math"
	"math/rand"
	"slices"
	"testing"
	"time"

	"gingersnap/api"
)

func same(a, b api.Consent) bool {
	return a.Given == b.Given && sameGrant(a, b)
}

// sameGrant: do two consents grant the same, whenever they were given?
func sameGrant(a, b api.Consent) bool {
	return a.Purposes == b.Purposes && slices.Equal(a.Vendors, b.Vendors)
}

// of: a consent, its purposes told by their numbers.
func of(given int, purposes []int, vendors ...int) api.Consent {
	c := api.Consent{Given: given, Vendors: vendors}
	for _, p := range purposes {
		c.Purposes[p-1] = true
	}
	return c
}

func may(t *testing.T, c api.Consent, purpose, vendor int, want bool) {
	t.Helper()
	if got := May(c, purpose, vendor); got != want {
		t.Errorf("May(%v, %d, %d) is %v, must be %v", c, purpose, vendor, got, want)
	}
}

func less(t *testing.T, a, b api.Consent, want bool) {
	t.Helper()
	if got := Less(a, b); got != want {
		t.Errorf("Less(%v, %v) is %v, must be %v", a, b, got, want)
	}
}

// answer of a call, held against what it must be.
func answer(t *testing.T, what string, got api.Consent, e api.Errno, want api.Consent, f api.Errno) {
	t.Helper()
	if !same(got, want) || e != f {
		t.Errorf("%s is %v %d, must be %v %d", what, got, e, want, f)
	}
}

func meets(t *testing.T, a, b, want api.Consent, e api.Errno) {
	t.Helper()
	got, f := Meet(a, b)
	answer(t, "Meet", got, f, want, e)
}

func joins(t *testing.T, a, b, want api.Consent, e api.Errno) {
	t.Helper()
	got, f := Join(a, b)
	answer(t, "Join", got, f, want, e)
}

func drops(t *testing.T, c api.Consent, purpose, vendor, now int, want api.Consent, e api.Errno) {
	t.Helper()
	got, f := Drop(c, purpose, vendor, now)
	answer(t, "Drop", got, f, want, e)
}

// some consent that may be written.
func some(r *rand.Rand) api.Consent {
	c := api.Consent{Given: r.Intn(2000)}
	for i := range c.Purposes {
		c.Purposes[i] = r.Intn(2) == 0
	}
	often := 1 + r.Intn(5)
	for v := 1; v <= 40; v++ {
		if r.Intn(often) == 0 {
			c.Vendors = append(c.Vendors, v)
		}
	}
	return c
}

// tamed: what a call answers, if there is no error.
func tamed(t *testing.T) func(api.Consent, api.Errno) api.Consent {
	return func(c api.Consent, e api.Errno) api.Consent {
		t.Helper()
		if e != api.OK {
			t.Fatalf("error %d", e)
		}
		return c
	}
}

// TestN1May: each purpose by each vendor, and what is none.
func TestN1May(t *testing.T) {
	c := of(1000, []int{1, 4, 10}, 2, 3, 40)
	for purpose := -20; purpose <= 30; purpose++ {
		for vendor := -50; vendor <= 90; vendor++ {
			granted := slices.Contains([]int{0, 1, 4, 10}, purpose) && slices.Contains([]int{0, 2, 3, 40}, vendor)
			may(t, c, purpose, vendor, granted)
			may(t, api.Consent{}, purpose, vendor, purpose == 0 && vendor == 0)
		}
	}
	for _, n := range []int{math.MinInt, math.MinInt + 1, math.MaxInt, 1<<32 + 1, -1 << 32} {
		may(t, c, n, 0, false)
		may(t, c, 0, n, false)
		may(t, c, n, 2, false)
		may(t, c, 1, n, false)
	}
}

// TestN1Whatever: vendors as they stand, be they a consent's or not.
func TestN1Whatever(t *testing.T) {
	c := of(-1, []int{2}, 41, 3, 3, -5, 1, 0, math.MinInt, math.MaxInt)
	for _, v := range c.Vendors {
		may(t, c, 0, v, true)
		may(t, c, 2, v, true)
		may(t, c, 1, v, false)
		less(t, of(0, nil, v), c, true)
		less(t, c, of(0, []int{2}, v), false)
	}
	may(t, c, 0, 2, false)
	may(t, c, 0, 42, false)
	less(t, c, c, true)
	less(t, of(0, nil, 3, 3), of(0, nil, 4, 3), true)
	less(t, of(0, nil, 4, 3), of(0, nil, 3, 3), false)
	less(t, of(0, nil, 0), api.Consent{}, false)
	less(t, of(0, nil, 3, 1, 2), of(5, nil, 2, 1, 9, 3), true)
}

func TestN1Less(t *testing.T) {
	a := of(1000, []int{1, 4}, 2, 3)
	less(t, api.Consent{}, api.Consent{}, true)
	less(t, api.Consent{}, a, true)
	less(t, a, api.Consent{}, false)
	less(t, a, a, true)
	less(t, a, of(5, []int{1, 4}, 2, 3), true)
	less(t, of(5, []int{1, 4}, 2, 3), a, true)
	less(t, a, of(0, []int{1, 2, 4}, 2, 3, 40), true)
	less(t, of(0, []int{1, 2, 4}, 2, 3), a, false)
	less(t, of(0, []int{1, 4}, 2, 3, 40), a, false)
	less(t, of(0, []int{4}, 3), a, true)
	less(t, of(0, []int{4}, 4), a, false)
	less(t, of(0, []int{5}, 3), a, false)
	less(t, of(0, nil, 2), of(0, []int{2}), false)
	for p := 1; p <= 10; p++ {
		for q := 1; q <= 10; q++ {
			less(t, of(0, []int{p}), of(0, []int{q}), p == q)
		}
	}
	for v := 1; v <= 40; v++ {
		for w := 1; w <= 40; w++ {
			less(t, of(0, nil, v), of(0, nil, w), v == w)
		}
	}
}

func TestN2(t *testing.T) {
	a, b := of(1000, []int{1, 4, 10}, 2, 3, 40), of(2000, []int{4, 5}, 1, 3, 7)
	meets(t, a, b, of(2000, []int{4}, 3), api.OK)
	meets(t, b, a, of(2000, []int{4}, 3), api.OK)
	joins(t, a, b, of(2000, []int{1, 4, 5, 10}, 1, 2, 3, 7, 40), api.OK)
	joins(t, b, a, of(2000, []int{1, 4, 5, 10}, 1, 2, 3, 7, 40), api.OK)
	meets(t, a, api.Consent{}, of(1000, nil), api.OK)
	joins(t, a, api.Consent{}, a, api.OK)
	meets(t, a, a, a, api.OK)
	joins(t, a, a, a, api.OK)
	meets(t, api.Consent{}, api.Consent{}, api.Consent{}, api.OK)
	joins(t, api.Consent{}, api.Consent{}, api.Consent{}, api.OK)
	meets(t, of(api.MaxGiven, nil), a, of(api.MaxGiven, nil), api.OK)
	joins(t, a, of(api.MaxGiven, nil), of(api.MaxGiven, []int{1, 4, 10}, 2, 3, 40), api.OK)
	r := rand.New(rand.NewSource(1))
	for range 3000 {
		held(t, some(r), some(r))
	}
}

// held: purpose by purpose and vendor by vendor, what is in the meet and in the join of two.
func held(t *testing.T, a, b api.Consent) {
	t.Helper()
	var inBoth, inEither api.Consent
	for i := range 10 {
		inBoth.Purposes[i] = a.Purposes[i] && b.Purposes[i]
		inEither.Purposes[i] = a.Purposes[i] || b.Purposes[i]
	}
	for v := 1; v <= 40; v++ {
		x, y := slices.Contains(a.Vendors, v), slices.Contains(b.Vendors, v)
		if x && y {
			inBoth.Vendors = append(inBoth.Vendors, v)
		}
		if x || y {
			inEither.Vendors = append(inEither.Vendors, v)
		}
	}
	inBoth.Given, inEither.Given = max(a.Given, b.Given), max(a.Given, b.Given)
	meets(t, a, b, inBoth, api.OK)
	joins(t, a, b, inEither, api.OK)
}

// TestN2Check: what is wrong with a tells, and then what is wrong with b.
func TestN2Check(t *testing.T) {
	good := of(1000, []int{1}, 2)
	early, late, strange, twice := of(-1, nil), of(api.MaxGiven+1, nil), of(0, nil, 41), of(0, nil, 3, 3)
	for _, c := range []api.Consent{early, late, strange, of(0, nil, 0), of(0, nil, 3, 3+38)} {
		for _, other := range []api.Consent{good, early, strange, twice} {
			meets(t, c, other, api.Consent{}, api.ErrRange)
			joins(t, c, other, api.Consent{}, api.ErrRange)
		}
		meets(t, good, c, api.Consent{}, api.ErrRange)
		joins(t, good, c, api.Consent{}, api.ErrRange)
	}
	for _, c := range []api.Consent{twice, of(0, nil, 4, 3)} {
		for _, other := range []api.Consent{good, early, strange, twice} {
			meets(t, c, other, api.Consent{}, api.ErrState)
			joins(t, c, other, api.Consent{}, api.ErrState)
		}
		meets(t, good, c, api.Consent{}, api.ErrState)
		joins(t, good, c, api.Consent{}, api.ErrState)
	}
}

// TestLattice: what may be done is a lattice, ordered by Less.
func TestLattice(t *testing.T) {
	r := rand.New(rand.NewSource(2))
	is := tamed(t)
	equal := func(a, b api.Consent) {
		t.Helper()
		if !sameGrant(a, b) {
			t.Errorf("%v is not %v", a, b)
		}
	}
	for range 2000 {
		a, b, c := some(r), some(r), some(r)
		m, j := is(Meet(a, b)), is(Join(a, b))
		equal(m, is(Meet(b, a)))
		equal(j, is(Join(b, a)))
		equal(is(Meet(m, c)), is(Meet(a, is(Meet(b, c)))))
		equal(is(Join(j, c)), is(Join(a, is(Join(b, c)))))
		equal(is(Meet(a, j)), a)
		equal(is(Join(a, m)), a)
		equal(is(Meet(a, is(Join(b, c)))), is(Join(m, is(Meet(a, c)))))
		less(t, m, a, true)
		less(t, m, b, true)
		less(t, a, j, true)
		less(t, b, j, true)
		less(t, a, b, sameGrant(m, a))
		less(t, a, b, sameGrant(j, b))
		less(t, a, b, mayNoMore(a, b))
		less(t, c, m, Less(c, a) && Less(c, b))
		less(t, j, c, Less(a, c) && Less(b, c))
	}
}

// mayNoMore: is nothing granted by a that b does not grant?
func mayNoMore(a, b api.Consent) bool {
	for purpose := range 11 {
		for vendor := range 41 {
			if May(a, purpose, vendor) && !May(b, purpose, vendor) {
				return false
			}
		}
	}
	return true
}

func TestN3(t *testing.T) {
	c := of(1000, []int{1, 4, 10}, 2, 3, 40)
	drops(t, c, 0, 0, 1000, c, api.OK)
	drops(t, c, 0, 0, 1001, of(1001, []int{1, 4, 10}, 2, 3, 40), api.OK)
	drops(t, c, 0, 0, api.MaxGiven, of(api.MaxGiven, []int{1, 4, 10}, 2, 3, 40), api.OK)
	drops(t, c, 4, 0, 1000, of(1000, []int{1, 10}, 2, 3, 40), api.OK)
	drops(t, c, 10, 0, 1000, of(1000, []int{1, 4}, 2, 3, 40), api.OK)
	drops(t, c, 1, 40, 1000, of(1000, []int{4, 10}, 2, 3), api.OK)
	drops(t, c, 0, 2, 1000, of(1000, []int{1, 4, 10}, 3, 40), api.OK)
	drops(t, c, 0, 3, 1000, of(1000, []int{1, 4, 10}, 2, 40), api.OK)
	drops(t, c, 5, 1, 2000, of(2000, []int{1, 4, 10}, 2, 3, 40), api.OK)
	drops(t, of(0, []int{7}, 7), 7, 7, 0, api.Consent{}, api.OK)
	drops(t, of(api.MaxGiven, nil), 10, 40, api.MaxGiven, of(api.MaxGiven, nil), api.OK)
}

// TestN3Order: of several errors the one that is named first.
func TestN3Order(t *testing.T) {
	c := of(1000, []int{1}, 2)
	for _, n := range []int{math.MinInt, -1, 11, 12, 41, math.MaxInt} {
		for _, now := range []int{1000, 999, api.MaxGiven + 1} {
			drops(t, c, n, 0, now, api.Consent{}, api.ErrRange)
			drops(t, c, n, 41, now, api.Consent{}, api.ErrRange)
			drops(t, of(0, nil, 3, 3), n, 0, now, api.Consent{}, api.ErrState)
			drops(t, of(-1, nil), n, 0, now, api.Consent{}, api.ErrRange)
		}
	}
	for _, n := range []int{math.MinInt, -1, 41, 42, math.MaxInt} {
		for _, now := range []int{1000, 999, api.MaxGiven + 1} {
			drops(t, c, 0, n, now, api.Consent{}, api.ErrRange)
			drops(t, c, 10, n, now, api.Consent{}, api.ErrRange)
			drops(t, of(0, nil, 4, 3), 0, n, now, api.Consent{}, api.ErrState)
		}
	}
	for _, now := range []int{math.MinInt, -1, 0, 999, api.MaxGiven + 1, math.MaxInt} {
		drops(t, c, 0, 0, now, api.Consent{}, api.ErrState)
		drops(t, c, 10, 40, now, api.Consent{}, api.ErrState)
		drops(t, of(0, nil, 41), 0, 0, now, api.Consent{}, api.ErrRange)
	}
	drops(t, of(0, nil), 0, 0, -1, api.Consent{}, api.ErrState)
}

// TestN4: what was dropped is granted no more, and nothing else changes.
func TestN4(t *testing.T) {
	r := rand.New(rand.NewSource(3))
	is := tamed(t)
	for range 400 {
		c := some(r)
		p, v := r.Intn(11), r.Intn(41)
		d := is(Drop(c, p, v, c.Given+r.Intn(100)))
		less(t, d, c, true)
		for purpose := range 11 {
			for vendor := range 41 {
				dropped := p != 0 && purpose == p || v != 0 && vendor == v
				may(t, d, purpose, vendor, !dropped && May(c, purpose, vendor))
			}
		}
	}
}

// TestP2: what is handed in is only read, the spare room behind it too, and an answer shares no memory with it.
func TestP2(t *testing.T) {
	is := tamed(t)
	x, y := []int{2, 3, 40, 7}, []int{3, 9, 5}
	a, b := of(1000, []int{1}, x[:3]...), of(2000, []int{1}, y[:2]...)
	calls := []func() api.Consent{
		func() api.Consent { return is(Meet(a, a)) },
		func() api.Consent { return is(Meet(a, b)) },
		func() api.Consent { return is(Join(a, b)) },
		func() api.Consent { return is(Join(a, of(0, nil))) },
		func() api.Consent { return is(Join(of(0, nil), a)) },
		func() api.Consent { return is(Drop(a, 0, 0, 1000)) },
		func() api.Consent { return is(Drop(a, 1, 40, 1000)) },
	}
	for i, call := range calls {
		May(a, 1, 3)
		Less(a, b)
		first, second := call(), call()
		l := first.Vendors[:cap(first.Vendors)]
		for k := range l {
			l[k] = 99
		}
		if !same(second, call()) {
			t.Errorf("two answers of call %d share memory", i)
		}
		if !slices.Equal(x, []int{2, 3, 40, 7}) || !slices.Equal(y, []int{3, 9, 5}) {
			t.Fatalf("call %d changed what it was handed", i)
		}
	}
	less(t, of(0, nil, 7), a, false)
	may(t, a, 0, 7, false)
}

// TestP1P3: no call panics; with an error there is nothing else; and what was asked between changes no answer.
func TestP1P3(t *testing.T) {
	type answers struct {
		may, less  bool
		m, j, d    api.Consent
		em, ej, ed api.Errno
	}
	odd := func(r *rand.Rand) api.Consent {
		c := some(r)
		if len(c.Vendors) > 0 && r.Intn(3) == 0 {
			c.Vendors[r.Intn(len(c.Vendors))] = r.Intn(100) - 30
		}
		if r.Intn(5) == 0 {
			c.Given = int(r.Uint64())
		}
		return c
	}
	ask := func(i int) answers {
		r := rand.New(rand.NewSource(int64(i)))
		a, b, p, v := odd(r), odd(r), r.Intn(15)-2, r.Intn(50)-5
		o := answers{may: May(a, p, v), less: Less(a, b)}
		o.m, o.em = Meet(a, b)
		o.j, o.ej = Join(a, b)
		o.d, o.ed = Drop(a, p, v, r.Intn(4000))
		for e, c := range map[*api.Errno]api.Consent{&o.em: o.m, &o.ej: o.j, &o.ed: o.d} {
			if *e != api.OK && !same(c, api.Consent{}) {
				t.Fatalf("%v, %v: %+v", a, b, o)
			}
		}
		return o
	}
	var first []answers
	for i := range 4000 {
		first = append(first, ask(i))
	}
	for i := len(first) - 1; i >= 0; i-- {
		a, b := first[i], ask(i)
		if a.may != b.may || a.less != b.less || a.em != b.em || a.ej != b.ej || a.ed != b.ed || !same(a.m, b.m) || !same(a.j, b.j) || !same(a.d, b.d) {
			t.Errorf("first %+v, then %+v", a, b)
		}
	}
}

// TestP4: lists of millions are answered as short ones are, and soon.
func TestP4(t *testing.T) {
	begun := time.Now()
	const n = 1 << 20
	up, down := of(0, nil), of(0, nil)
	for v := range n {
		up.Vendors = append(up.Vendors, v)
		down.Vendors = append(down.Vendors, n-v)
	}
	may(t, up, 0, n-1, true)
	may(t, up, 0, n, false)
	less(t, up, up, true)
	less(t, up, down, false) // 0 is in up alone
	up.Vendors[0] = n
	less(t, up, down, true)
	less(t, down, up, true)
	meets(t, up, down, api.Consent{}, api.ErrRange)
	joins(t, api.Consent{}, up, api.Consent{}, api.ErrRange)
	drops(t, down, 0, 0, 0, api.Consent{}, api.ErrRange)
	if d := time.Since(begun); d > time.Minute {
		t.Errorf("it took %v", d)
	}
}
