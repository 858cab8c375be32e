package lex_test

import (
	"runtime"
	"slices"
	"strings"
	"sync"
	"testing"
	"unsafe"

	"smithy/api"
	"smithy/lex"
)

const sample = "val x = 123456789012345678901234567890 :: A.b \"text\" #\"c\" 'a 1.5 op ::: ~123456789012345678901234567890 123456789012345678901234567890"

// R3: what was answered may be written, and no other answer changes.
func TestSharesNothing(t *testing.T) {
	want, _ := lex.Tokens(sample)
	got, _ := lex.Tokens(sample)
	for i := range got {
		clear(got[i].Int.Mag[:cap(got[i].Int.Mag)])
		for j, w := range want {
			if j > i && len(w.Int.Mag) > 0 && got[j].Int.Mag[0] != w.Int.Mag[0] {
				t.Errorf("words %d and %d share their limbs", i, j)
			}
		}
	}
	clear(got[:cap(got)])
	again, _ := lex.Tokens(sample)
	if !slices.EqualFunc(want, again, same) || len(again) != 14 {
		t.Errorf("%+v, %+v", want, again)
	}
}

// R3: no word's Text lies within the text that was handed in.
func TestTextsAreNew(t *testing.T) {
	text := strings.Clone(sample)
	from := uintptr(unsafe.Pointer(unsafe.StringData(text)))
	words, _ := lex.Tokens(text)
	for _, w := range words {
		if at := uintptr(unsafe.Pointer(unsafe.StringData(w.Text))); at >= from && at < from+uintptr(len(text)) {
			t.Errorf("%q lies within the text", w.Text)
		}
	}
	runtime.KeepAlive(text) // else its memory might be given to a word
}

// R2, R3: with a mishap there are no words, without one no place; no words are a nil list.
func TestMishapOrWords(t *testing.T) {
	for i := range len(sample) {
		for _, s := range []string{sample[:i], sample[i:], sample[:i] + "." + sample[i:], sample[:i] + "\"" + sample[i:]} {
			words, m := lex.Tokens(s)
			if m.Code != api.OK && words != nil || m.Code == api.OK && m.At != 0 || words != nil && len(words) == 0 {
				t.Errorf("%q: %v, %v", s, words, m)
			}
		}
	}
}

// R4: many hands at the same time are answered as one alone is.
func TestManyHands(t *testing.T) {
	want, _ := lex.Tokens(sample)
	var hands sync.WaitGroup
	for range 8 {
		hands.Go(func() {
			for range 200 {
				got, m := lex.Tokens(sample)
				if m.Code != api.OK || !slices.EqualFunc(got, want, same) || !lex.Reserved("val") || lex.Reserved("x") {
					t.Error("answered otherwise than alone")
				}
			}
		})
	}
	hands.Wait()
}
