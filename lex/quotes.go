package lex

import (
	"smithy/api"
)

// textAt is the Text whose first quote stands at at.
func textAt(text string, at int) (Token, int, api.Mishap) {
	said, end, mishap := quotedAt(text, at)
	if mishap.Code != api.OK {
		return Token{}, 0, mishap
	}
	return Token{Kind: Text, Text: said, At: at}, end, api.Mishap{}
}

// charAt is the Char whose # stands at at.
func charAt(text string, at int) (Token, int, api.Mishap) {
	said, end, mishap := quotedAt(text, at+1)
	switch {
	case mishap.Code != api.OK:
		return Token{}, 0, mishap
	case len(said) != 1:
		return failed(api.ErrWord, at)
	}
	return Token{Kind: Char, Text: said, N: int(said[0]), At: at}, end, api.Mishap{}
}

// quotedAt is what stands between the quote at at and the next one, and the place behind that.
func quotedAt(text string, at int) (string, int, api.Mishap) {
	var said []byte
	for at++; at < len(text); {
		c, length := text[at], 1
		switch {
		case c == '"':
			return string(said), at + 1, api.Mishap{}
		case c == '\\':
			c, length = escapeAt(text, at)
		case c < 32 || c > 126:
			length = 0
		}
		if length == 0 {
			return "", 0, api.Mishap{Code: api.ErrWord, At: at}
		}
		said = append(said, c)
		at += length
	}
	return "", 0, api.Mishap{Code: api.ErrEnd, At: len(text)}
}

// escapeAt is the byte that the backslash at at and what is behind it say, and how many bytes they are; 0, if they say none.
func escapeAt(text string, at int) (byte, int) {
	switch c := byteAt(text, at+1); {
	case c == 'n':
		return '\n', 2
	case c == 't':
		return '\t', 2
	case c == '\\', c == '"':
		return c, 2
	}
	n := 0
	for i := at + 1; i <= at+3; i++ {
		c := byteAt(text, i)
		if !isDigit(c) {
			return 0, 0
		}
		n = n*10 + int(c-'0')
	}
	if n > 255 {
		return 0, 0
	}
	return byte(n), 4
}
