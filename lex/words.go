package lex

import (
	"strings"

	"smithy/api"
)

// wordAt is the word that begins at at, and the place behind it.
func wordAt(text string, at int) (Token, int, api.Mishap) {
	first, second := text[at], byteAt(text, at+1)
	switch {
	case isLetter(first):
		return nameAt(text, at)
	case isDigit(first), first == '~' && isDigit(second):
		return numberAt(text, at)
	case first == '"':
		return textAt(text, at)
	case first == '#' && second == '"':
		return charAt(text, at)
	case first == '\'':
		return typeVariableAt(text, at)
	case isLone(first):
		return asItStands(Key, text, at, at+1)
	case isSymbol(first):
		return symbolsAt(text, at)
	}
	return failed(api.ErrByte, at)
}

func failed(code api.Errno, at int) (Token, int, api.Mishap) {
	return Token{}, 0, api.Mishap{Code: code, At: at}
}

// asItStands is the word whose Text is its bytes, from at up to end.
func asItStands(kind int, text string, at, end int) (Token, int, api.Mishap) {
	return Token{Kind: kind, Text: strings.Clone(text[at:end]), At: at}, end, api.Mishap{}
}

// limited is such a word, if it has no more bytes than it may have.
func limited(kind int, text string, at, end, most int) (Token, int, api.Mishap) {
	if end-at > most {
		return failed(api.ErrWord, at)
	}
	return asItStands(kind, text, at, end)
}

// nameAt is a reserved word or a name, with all its parts if it is a long one.
func nameAt(text string, at int) (Token, int, api.Mishap) {
	end := behindAll(text, at, isNamePart)
	if Reserved(text[at:end]) {
		return asItStands(Key, text, at, end)
	}
	for byteAt(text, end) == '.' && isLetter(byteAt(text, end+1)) {
		part := end + 1
		end = behindAll(text, part, isNamePart)
		if Reserved(text[part:end]) {
			return failed(api.ErrWord, part)
		}
	}
	return limited(Id, text, at, end, api.MaxName)
}

func typeVariableAt(text string, at int) (Token, int, api.Mishap) {
	letter := at + 1
	if byteAt(text, letter) == '\'' {
		letter++
	}
	if !isLetter(byteAt(text, letter)) {
		return failed(api.ErrByte, at)
	}
	return limited(TyVar, text, at, behindAll(text, letter, isNamePart), api.MaxName)
}

func symbolsAt(text string, at int) (Token, int, api.Mishap) {
	end := behindAll(text, at, isSymbol)
	if Reserved(text[at:end]) {
		return asItStands(Key, text, at, end)
	}
	return limited(Symbol, text, at, end, api.MaxName)
}
