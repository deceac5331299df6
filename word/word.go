// Package word: words: see doc/01-word.md.
package word

import (
	"iter"
	"strings"
)

// noToken: the signs that can be seen and that no token has.
const noToken = "()<>@,;:\\\"/[]?={}"

// Fold: a text with its letters from A to Z as those from a to z.
func Fold(s string) string {
	out := []byte(s)
	for i, b := range out {
		if 'A' <= b && b <= 'Z' {
			out[i] = b - 'A' + 'a'
		}
	}
	return string(out)
}

// Trim: a text without the blanks at both ends.
func Trim(s string) string {
	from, to := 0, len(s)
	for from < to && blank(s[from]) {
		from++
	}
	for from < to && blank(s[to-1]) {
		to--
	}
	return s[from:to]
}

func blank(b byte) bool { return b == ' ' || b == '\t' }

// Token: is a text a token?
func Token(s string) bool {
	for i := range len(s) {
		if !inToken(s[i]) {
			return false
		}
	}
	return s != ""
}

func inToken(b byte) bool {
	return 33 <= b && b <= 126 && strings.IndexByte(noToken, b) < 0
}

// Cut: what stands ahead of the first b, what stands behind it, and whether there is one.
func Cut(s string, b byte) (string, string, bool) {
	at := strings.IndexByte(s, b)
	if at < 0 {
		return s, "", false
	}
	return s[:at], s[at+1:], true
}

// Parts: what stands between the bytes b, in order.
func Parts(s string, b byte) []string {
	var out []string
	for part := range between(s, b) {
		out = append(out, part)
	}
	return out
}

// between tells what stands between the bytes b, in order, until nobody wants more of it.
func between(s string, b byte) iter.Seq[string] {
	return func(yield func(string) bool) {
		part, rest, more := Cut(s, b)
		for yield(part) && more {
			part, rest, more = Cut(rest, b)
		}
	}
}

// Join: texts with a b between two.
func Join(l []string, b byte) string {
	var out []byte
	for i, s := range l {
		if i > 0 {
			out = append(out, b)
		}
		out = append(out, s...)
	}
	return string(out)
}
