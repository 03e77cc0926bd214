package lex

import "slices"

const quote = '\''

// run tells how many bytes of a sort stand at the beginning.
func run(b []byte, is func(byte) bool) int {
	end := slices.IndexFunc(b, func(c byte) bool { return !is(c) })
	if end < 0 {
		return len(b)
	}
	return end
}

func isBlank(c byte) bool { return c == ' ' || c == '\t' || c == '\n' || c == '\r' }

func isDigit(c byte) bool { return c >= '0' && c <= '9' }

func isSmall(c byte) bool { return c >= 'a' && c <= 'z' }

func isCapital(c byte) bool { return c >= 'A' && c <= 'Z' }

func beginsWord(c byte) bool { return isSmall(c) || isCapital(c) || c == '_' }

func inWord(c byte) bool { return beginsWord(c) || isDigit(c) }

func inName(c byte) bool { return inWord(c) && !isCapital(c) }

func isNoQuote(c byte) bool { return c != quote }
