package sixty

import (
	"encoding/base64"
	"math/rand"
	"strings"
	"testing"
	"time"

	"gingersnap/api"
)

// row of the letters, told from the document once more.
const row = "ABCDEFGHIJKLM" + "NOPQRSTUVWXYZ" + "abcdefghijklm" + "nopqrstuvwxyz" + "0123456789" + "-_"

// model of both ways: the library's letters for file names, without a sign that fills up, none of them with bits too many.
var model = base64.RawURLEncoding.Strict()

func writes(t *testing.T, s, want string, e api.Errno) {
	t.Helper()
	if got, f := Write(s); got != want || f != e {
		t.Errorf("Write(%q) is %q %d, must be %q %d", s, got, f, want, e)
	}
}

func reads(t *testing.T, s, want string, e api.Errno) {
	t.Helper()
	if got, f := Read(s); got != want || f != e {
		t.Errorf("Read(%q) is %q %d, must be %q %d", s, got, f, want, e)
	}
}

// bad: a row that is not read.
func bad(t *testing.T, s string, e api.Errno) {
	t.Helper()
	reads(t, s, "", e)
}

// both: a text, and its letters.
func both(t *testing.T, s, letters string) {
	t.Helper()
	writes(t, s, letters, api.OK)
	reads(t, letters, s, api.OK)
}

func TestL1L2(t *testing.T) {
	both(t, "", "")
	both(t, "\x00", "AA")
	both(t, "\xff", "_w")
	both(t, "\x00\x00", "AAA")
	both(t, "\xff\xff", "__8")
	both(t, "\x00\x00\x00", "AAAA")
	both(t, "\xff\xff\xff", "____")
	both(t, "\x01", "AQ")
	both(t, "\x00\x01", "AAE")
	both(t, "\x00\x00\x01", "AAAB")
	both(t, "a", "YQ")
	both(t, "ab", "YWI")
	both(t, "abc", "YWJj")
	both(t, "abcd", "YWJjZA")
	both(t, "\xff\xef\xbe?", "_---Pw")
	both(t, "\xfb\xf0\x00", "-_AA")
	both(t, "\x00\x10\x83\x10\x51\x87\x20\x92\x8b", "ABCDEFGHIJKL")
}

// TestL1Letters: each letter stands for its number, wherever it stands.
func TestL1Letters(t *testing.T) {
	if len(row) != 64 {
		t.Fatalf("the row has %d letters", len(row))
	}
	for i := range 64 {
		c, n := row[i:i+1], byte(i)
		both(t, string([]byte{n << 2, 0, 0}), c+"AAA")
		both(t, string([]byte{n >> 4, n << 4, 0}), "A"+c+"AA")
		both(t, string([]byte{0, n >> 2, n << 6}), "AA"+c+"A")
		both(t, string([]byte{0, 0, n}), "AAA"+c)
	}
}

// TestL1Bytes: all texts of one byte, and of two.
func TestL1Bytes(t *testing.T) {
	for a := range 256 {
		one := []byte{byte(a)}
		both(t, string(one), model.EncodeToString(one))
		for b := range 256 {
			two := []byte{byte(a), byte(b)}
			both(t, string(two), model.EncodeToString(two))
		}
	}
}

func TestL1Many(t *testing.T) {
	for n := range 3 * api.MaxText {
		s := strings.Repeat("\xfb", n)
		if n > api.MaxText {
			writes(t, s, "", api.ErrMany)
			continue
		}
		both(t, s, model.EncodeToString([]byte(s)))
	}
}

// TestL2Bytes: another byte is ErrForm at each place, a letter is not.
func TestL2Bytes(t *testing.T) {
	for i := range 256 {
		c := string([]byte{byte(i)})
		for _, s := range []string{c + "AAA", "A" + c + "AA", "AA" + c + "A", "AAA" + c, c + "A", c + "AA", "A" + c + "A", "AAAA" + c + "A", "AAA" + c + "AAAA"} {
			_, e := Read(s)
			if want := strings.Contains(row, c); want != (e == api.OK) || !want && e != api.ErrForm {
				t.Errorf("Read(%q) is %d", s, e)
			}
			if e != api.OK {
				bad(t, s, api.ErrForm)
			}
		}
	}
	for _, s := range []string{"=", "AA=", "AA==", "AAA=", "AAAA=", "====", "+/", "AA\n", "\nAAAA", "AA\r\nAA", " AAAA", "AAAA ", "a b", "\u00c4", "AAAA\x00"} {
		bad(t, s, api.ErrForm)
	}
}

// TestL2One: one letter more than a multiple of four is no row.
func TestL2One(t *testing.T) {
	for n := range api.MaxText / 3 * 4 {
		s := strings.Repeat("A", n)
		if n%4 == 1 {
			bad(t, s, api.ErrForm)
			continue
		}
		reads(t, s, strings.Repeat("\x00", n*3/4), api.OK)
	}
}

// TestL2Left: no bit behind the last whole byte may be 1.
func TestL2Left(t *testing.T) {
	for i := range 64 {
		c := row[i : i+1]
		for _, head := range []string{"", "____", strings.Repeat("A", 532)} {
			s, e := Read(head + "A" + c)
			if (e == api.OK) != (i%16 == 0) || e != api.OK && (s != "" || e != api.ErrForm) {
				t.Errorf("behind %d letters A%s is %q %d", len(head), c, s, e)
			}
		}
		for _, head := range []string{"", "____", strings.Repeat("A", 528)} {
			s, e := Read(head + "AA" + c)
			if (e == api.OK) != (i%4 == 0) || e != api.OK && (s != "" || e != api.ErrForm) {
				t.Errorf("behind %d letters AA%s is %q %d", len(head), c, s, e)
			}
		}
	}
}

func TestL2Many(t *testing.T) {
	reads(t, strings.Repeat("A", 532), strings.Repeat("\x00", 399), api.OK)
	bad(t, strings.Repeat("A", 533), api.ErrForm)
	reads(t, strings.Repeat("A", 534), strings.Repeat("\x00", 400), api.OK)
	bad(t, strings.Repeat("A", 535), api.ErrMany)
	bad(t, strings.Repeat("A", 536), api.ErrMany)
	bad(t, strings.Repeat("A", 537), api.ErrForm)
	bad(t, strings.Repeat("A", 538), api.ErrMany)
}

// TestL2Order: of several errors the one that is named first.
func TestL2Order(t *testing.T) {
	bad(t, strings.Repeat("A", 600)+"=", api.ErrForm)
	bad(t, strings.Repeat("A", 599)+"=", api.ErrForm)
	bad(t, "="+strings.Repeat("A", 600), api.ErrForm)
	bad(t, strings.Repeat("A", 601), api.ErrForm)
	bad(t, strings.Repeat("A", 601)+"B", api.ErrMany) // a bit is left, too
	bad(t, strings.Repeat("A", 602)+"B", api.ErrMany)
	bad(t, strings.Repeat("A", 533)+"B", api.ErrForm)
}

// TestL3: each text is one row of letters, and each row that is read is that of what is read.
func TestL3(t *testing.T) {
	r := rand.New(rand.NewSource(1))
	for range 20000 {
		some := make([]byte, r.Intn(12))
		if r.Intn(100) == 0 {
			some = make([]byte, r.Intn(api.MaxText+1))
		}
		r.Read(some)
		both(t, string(some), model.EncodeToString(some))
	}
	read := 0
	for range 50000 {
		some := make([]byte, r.Intn(10))
		for i := range some {
			some[i] = row[r.Intn(64)]
			if r.Intn(50) == 0 {
				some[i] = byte(' ' + r.Intn(200))
			}
		}
		want, err := model.DecodeString(string(some))
		if err != nil {
			bad(t, string(some), api.ErrForm)
			continue
		}
		both(t, string(want), string(some))
		read++
	}
	if read < 10000 {
		t.Errorf("only %d are read", read)
	}
}

// TestP1P3: no call panics; with an error there is nothing else; and what was asked between changes no answer.
func TestP1P3(t *testing.T) {
	type answer struct {
		written, read string
		e, f          api.Errno
	}
	ask := func(i int) answer {
		r := rand.New(rand.NewSource(int64(i)))
		some := make([]byte, r.Intn(600))
		r.Read(some)
		var a answer
		a.written, a.e = Write(string(some))
		for i := range some {
			some[i] = row[some[i]%64]
		}
		a.read, a.f = Read(string(some))
		if a.e != api.OK && a.written != "" || a.f != api.OK && a.read != "" {
			t.Fatalf("%q: %+v", some, a)
		}
		return a
	}
	var first []answer
	for i := range 3000 {
		first = append(first, ask(i))
	}
	for i := len(first) - 1; i >= 0; i-- {
		if again := ask(i); again != first[i] {
			t.Errorf("first %+v, then %+v", first[i], again)
		}
	}
}

// TestP4: texts of millions of bytes are answered as short ones are, and soon.
func TestP4(t *testing.T) {
	const n = 1 << 24
	begun := time.Now()
	long := strings.Repeat("_", n)
	writes(t, long, "", api.ErrMany)
	bad(t, long, api.ErrMany)
	bad(t, long+"_", api.ErrForm)
	bad(t, long+"=", api.ErrForm)
	bad(t, long+"==", api.ErrForm)
	if d := time.Since(begun); d > time.Minute {
		t.Errorf("it took %v", d)
	}
}
