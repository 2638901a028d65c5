// Package tests holds the tests of the project: for each promise that has landed at least one that would fail if it were broken.
package tests

import (
	"strconv"
	"strings"
	"testing"
)

// text writes numbers with spaces between them, for names of cases.
func text(numbers ...int) string {
	words := []string{}
	for _, x := range numbers {
		words = append(words, strconv.Itoa(x))
	}
	return strings.Join(words, " ")
}

// check fails the test, with what is told, unless something holds.
func check(t *testing.T, holds bool, told ...any) {
	t.Helper()
	if !holds {
		t.Fatal(told...)
	}
}

// nearTexts are all texts that differ from a text in one place: one byte less, one more, another one, or two exchanged.
func nearTexts(s string, bytes string) []string {
	var list []string
	for k := range len(s) + 1 {
		for _, b := range []byte(bytes) {
			list = append(list, s[:k]+string([]byte{b})+s[k:])
			if k < len(s) {
				list = append(list, s[:k]+string([]byte{b})+s[k+1:])
			}
		}
		if k < len(s) {
			list = append(list, s[:k]+s[k+1:], s[:k], s[k:])
		}
		if k+1 < len(s) {
			list = append(list, s[:k]+string([]byte{s[k+1], s[k]})+s[k+2:])
		}
	}
	return list
}

// afterAll is a thing after all deeds that may be done, and how many these are, as the document has it.
func afterAll[T, D any](thing T, deeds []D, do func(T, D) (T, bool)) (T, int) {
	if len(deeds) == 0 {
		return thing, 0
	}
	after, done := do(thing, deeds[0])
	if !done {
		return afterAll(thing, deeds[1:], do)
	}
	last, many := afterAll(after, deeds[1:], do)
	return last, many + 1
}
