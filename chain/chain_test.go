package chain

import (
	"encoding/binary"
	"hash/fnv"
	"math"
	"math/rand"
	"slices"
	"strings"
	"testing"
	"time"
)

// Texts that were looked for: each makes a Head that another chain has too.
const (
	likeNone = "\x7c\x36\x5b\x28\x0d\x2d\x73\x69\x38\xf0\x20\x40" // alone: that of no text
	likeA    = "\x10\x3e\x0b\x05\xdc\x4b\x00\x73\x34\xf7\x5c\x6c" // alone: that of "a"
	likeB    = "\xd6\x1b\xb5\x60\x14\xdb\x08\x17\x05\x2b\x68\x22" // behind "a": that of "b"
)

// likeEmpty has the Hash of an empty text.
const likeEmpty = "\x3c\xe2\x1e\x39\x1c\x5b\x17\x06\x7e\xda\x2e\x17"

// modelHash is the library's.
func modelHash(s string) uint64 {
	h := fnv.New64a()
	h.Write([]byte(s))
	return h.Sum64()
}

func modelLink(h uint64, s string) string {
	return string(binary.BigEndian.AppendUint64(nil, h)) + s
}

func modelHead(l []string) uint64 {
	if len(l) == 0 {
		return modelHash("")
	}
	ahead, last := l[:len(l)-1], l[len(l)-1]
	return modelHash(modelLink(modelHead(ahead), last))
}

// modelCollide by the document's words, from one end to the other.
func modelCollide(a, b []string) (string, string, bool) {
	var x, y string
	if len(a) > 0 {
		x = modelLink(modelHead(a[:len(a)-1]), a[len(a)-1])
		a = a[:len(a)-1]
	}
	if len(b) > 0 {
		y = modelLink(modelHead(b[:len(b)-1]), b[len(b)-1])
		b = b[:len(b)-1]
	}
	switch {
	case x != y && modelHash(x) == modelHash(y):
		return x, y, true
	case x != y, len(a) == 0 && len(b) == 0:
		return "", "", false
	}
	return modelCollide(a, b)
}

func hash(t *testing.T, s string, want uint64) {
	t.Helper()
	if got := Hash(s); got != want {
		t.Errorf("Hash(%q) is %x, must be %x", s, got, want)
	}
}

func link(t *testing.T, h uint64, s, want string) {
	t.Helper()
	if got := Link(h, s); got != want {
		t.Errorf("Link(%x, %q) is %q, must be %q", h, s, got, want)
	}
}

func head(t *testing.T, l []string, want uint64) {
	t.Helper()
	if got := Head(l); got != want {
		t.Errorf("Head(%q) is %x, must be %x", l, got, want)
	}
}

func collide(t *testing.T, a, b []string, x, y string, want bool) {
	t.Helper()
	if p, q, ok := Collide(a, b); p != x || q != y || ok != want {
		t.Errorf("Collide(%q, %q) is %q %q %v, must be %q %q %v", a, b, p, q, ok, x, y, want)
	}
	if p, q, ok := Collide(b, a); p != y || q != x || ok != want {
		t.Errorf("Collide(%q, %q) is %q %q %v, must be %q %q %v", b, a, p, q, ok, y, x, want)
	}
}

// randomChain of short texts, of few kinds, so that many are alike.
func randomChain(r *rand.Rand) []string {
	l := make([]string, r.Intn(5))
	for i := range l {
		l[i] = []string{"", "a", "b", "\x00", likeNone, likeA, likeB}[r.Intn(7)]
	}
	return l
}

func TestS1Hash(t *testing.T) {
	hash(t, "", 14695981039346656037)
	hash(t, "a", 0xaf63dc4c8601ec8c)
	hash(t, "foobar", 0x85944171f73967e8)
	hash(t, "\x00", 0xaf63bd4c8601b7df)
	hash(t, likeEmpty, 14695981039346656037)
	r := rand.New(rand.NewSource(1))
	for range 3000 {
		b := make([]byte, r.Intn(60))
		r.Read(b)
		hash(t, string(b), modelHash(string(b)))
	}
	for c := range 256 {
		s := string([]byte{byte(c)})
		hash(t, s, (14695981039346656037^uint64(c))*1099511628211)
	}
}

func TestS1Link(t *testing.T) {
	link(t, 0, "", "\x00\x00\x00\x00\x00\x00\x00\x00")
	link(t, 1, "a", "\x00\x00\x00\x00\x00\x00\x00\x01a")
	link(t, 0x0102030405060708, "xy", "\x01\x02\x03\x04\x05\x06\x07\x08xy")
	link(t, math.MaxUint64, "\xff", "\xff\xff\xff\xff\xff\xff\xff\xff\xff")
	link(t, 1<<63, "", "\x80\x00\x00\x00\x00\x00\x00\x00")
	r := rand.New(rand.NewSource(2))
	for range 3000 {
		h, s := r.Uint64(), strings.Repeat("z", r.Intn(9))
		link(t, h, s, modelLink(h, s))
	}
}

func TestS1Head(t *testing.T) {
	head(t, nil, 0xcbf29ce484222325)
	head(t, []string{}, 0xcbf29ce484222325)
	head(t, []string{""}, 0x4645b230cece75b2)
	head(t, []string{"a"}, 0x36e39bef68d23589)
	head(t, []string{"a", "b"}, 0x89c49dfaaa466c6e)
	head(t, []string{"ab"}, 0x16f7e2cf1d319e51)
	r := rand.New(rand.NewSource(3))
	for range 3000 {
		l := randomChain(r)
		head(t, l, modelHead(l))
	}
}

func TestS1Verify(t *testing.T) {
	r := rand.New(rand.NewSource(4))
	for range 1000 {
		l := randomChain(r)
		h := modelHead(l)
		if !Verify(l, h) {
			t.Errorf("%x is not the Head of %q", h, l)
		}
		for bit := range 64 {
			if Verify(l, h^1<<bit) {
				t.Errorf("%x is the Head of %q", h^1<<bit, l)
			}
		}
	}
	if Verify(nil, 0) || !Verify(nil, modelHash("")) {
		t.Error("the Head of no text is the Hash of an empty one")
	}
}

func TestS2None(t *testing.T) {
	collide(t, nil, nil, "", "", false)
	collide(t, nil, []string{}, "", "", false)
	collide(t, []string{"a"}, []string{"a"}, "", "", false)
	collide(t, []string{"a"}, nil, "", "", false)
	collide(t, []string{"a"}, []string{"b"}, "", "", false)
	collide(t, []string{"a", "b"}, []string{"a", "b"}, "", "", false)
	collide(t, []string{"a", "b"}, []string{"x", "b"}, "", "", false)
	collide(t, []string{"a", "b"}, []string{"b"}, "", "", false)
	// What differs at the end ends it, though there is one Hash further ahead.
	collide(t, []string{likeA, "x"}, []string{"a", "y"}, "", "", false)
	collide(t, []string{likeNone, "x"}, []string{"y"}, "", "", false)
	// Of a chain that has no text any more the text is empty, not a Link.
	collide(t, []string{""}, nil, "", "", false)
	collide(t, []string{likeNone, ""}, nil, "", "", false)
}

func TestS2Two(t *testing.T) {
	none := modelHash("")
	a := modelLink(none, "a")
	collide(t, []string{likeA}, []string{"a"}, modelLink(none, likeA), a, true)
	collide(t, []string{"a", likeB}, []string{"b"}, modelLink(modelHash(a), likeB), modelLink(none, "b"), true)
	collide(t, []string{likeA, likeB}, []string{"b"}, modelLink(modelHash(a), likeB), modelLink(none, "b"), true)
}

func TestS2Further(t *testing.T) {
	none := modelHash("")
	x, y := modelLink(none, likeA), modelLink(none, "a")
	collide(t, []string{likeA, "x"}, []string{"a", "x"}, x, y, true)
	collide(t, []string{likeA, "x", "", "x"}, []string{"a", "x", "", "x"}, x, y, true)
	collide(t, []string{likeA, likeB, "z"}, []string{"a", likeB, "z"}, x, y, true)
	// From the end: the last two that differ are the answer.
	collide(t, []string{likeA, likeB, "z"}, []string{"b", "z"}, modelLink(modelHash(y), likeB), modelLink(none, "b"), true)
}

func TestS2OneIsOut(t *testing.T) {
	x := modelLink(modelHash(""), likeNone)
	collide(t, []string{likeNone}, nil, x, "", true)
	collide(t, []string{likeNone, likeNone}, nil, x, "", true)
	collide(t, []string{likeNone, "a"}, []string{"a"}, x, "", true)
	collide(t, []string{likeNone, likeNone, "a"}, []string{"a"}, x, "", true)
	collide(t, []string{likeNone, likeNone, "a"}, []string{likeNone, "a"}, x, "", true)
}

func TestS2Any(t *testing.T) {
	r := rand.New(rand.NewSource(5))
	shown := 0
	for range 20000 {
		a, b := randomChain(r), randomChain(r)
		x, y, ok := modelCollide(a, b)
		collide(t, a, b, x, y, ok)
		if ok {
			shown++
		}
	}
	if shown < 200 {
		t.Errorf("just %d of the chains show two texts", shown)
	}
}

func TestS3OneHead(t *testing.T) {
	r := rand.New(rand.NewSource(6))
	for range 20000 {
		a, b := randomChain(r), randomChain(r)
		x, y, ok := Collide(a, b)
		if ok && (x == y || Hash(x) != Hash(y)) {
			t.Errorf("%q and %q show %q and %q", a, b, x, y)
		}
		if Head(a) == Head(b) && !slices.Equal(a, b) && !ok {
			t.Errorf("%q and %q have one Head, and show nothing", a, b)
		}
	}
}

func TestS3OneByte(t *testing.T) {
	r := rand.New(rand.NewSource(7))
	for range 300 {
		l := append(randomChain(r), string([]byte{1, 2, 3, byte(r.Intn(256)), 5}))
		h := Head(l)
		last := []byte(l[len(l)-1])
		place := r.Intn(len(last))
		for more := 1; more < 256; more++ {
			last[place]++
			l[len(l)-1] = string(last)
			if Head(l) == h || Verify(l, h) {
				t.Errorf("%q has the Head of one that differs in a byte", l)
			}
		}
	}
}

func TestP2(t *testing.T) {
	whole := []string{"a", likeB, "x", "spare", "room"}
	l := whole[:3]
	before := slices.Clone(whole)
	h := Head(l)
	Verify(l, h)
	Collide(l, []string{"b", "x"})
	Collide([]string{"b", "x"}, l)
	if !slices.Equal(whole, before) {
		t.Errorf("the chain was %q, and is %q", before, whole)
	}
	l[0] = "c"
	if Head(l) == h {
		t.Error("the chain's Head is that of what it was")
	}
}

func TestP1P3(t *testing.T) {
	var first []string
	for range 2 {
		r := rand.New(rand.NewSource(8))
		var all []string
		for range 500 {
			a, b := randomChain(r), randomChain(r)
			x, y, ok := Collide(a, b)
			if !ok && (x != "" || y != "") {
				t.Errorf("Collide(%q, %q) is %q %q, with false", a, b, x, y)
			}
			all = append(all, x, y, Link(Head(a), ""), Link(Hash(x+y), ""))
		}
		if first != nil && !slices.Equal(first, all) {
			t.Error("the same was asked, and the answers differ")
		}
		first = all
	}
}

func TestP4(t *testing.T) {
	began := time.Now()
	long := strings.Repeat("gingersnap", 10_000_000)
	if Hash(long) != modelHash(long) {
		t.Error("the Hash of a long text is wrong")
	}
	l := slices.Repeat([]string{"", "a", "bc"}, 300_000)
	if x, y, ok := Collide(l, slices.Clone(l)); x != "" || y != "" || ok {
		t.Errorf("a long chain and itself show %q and %q", x, y)
	}
	more := append([]string{likeNone}, l...)
	if x, y, ok := Collide(more, l); x != modelLink(modelHash(""), likeNone) || y != "" || !ok {
		t.Errorf("two long chains show %q and %q: %v", x, y, ok)
	}
	if Head(more) != Head(l) || !Verify(more, Head(l)) {
		t.Error("two long chains have one Head")
	}
	if took := time.Since(began); took > time.Minute {
		t.Errorf("it took %v", took)
	}
}
