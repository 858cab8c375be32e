package lex

import "strings"

const (
	symbolBytes = "!%&$#+-/:<=>?@\\~`^|*"
	loneBytes   = "()[]{},;_"
)

func isBlank(c byte) bool { return c == ' ' || c == '\t' || c == '\n' || c == '\r' }

func isLetter(c byte) bool { return 'A' <= c && c <= 'Z' || 'a' <= c && c <= 'z' }

func isDigit(c byte) bool { return '0' <= c && c <= '9' }

// isNamePart tells whether a byte goes on with a name.
func isNamePart(c byte) bool { return isLetter(c) || isDigit(c) || c == '_' || c == '\'' }

func isSymbol(c byte) bool { return strings.IndexByte(symbolBytes, c) >= 0 }

// isLone tells whether a byte is a reserved word whatever stands behind it.
func isLone(c byte) bool { return strings.IndexByte(loneBytes, c) >= 0 }

// byteAt is the text's byte at at; beyond its end 0, which no word has.
func byteAt(text string, at int) byte {
	if at >= len(text) {
		return 0
	}
	return text[at]
}

// behindAll is the first place from at on whose byte is none of those that belong.
func behindAll(text string, at int, belongs func(byte) bool) int {
	for at < len(text) && belongs(text[at]) {
		at++
	}
	return at
}
