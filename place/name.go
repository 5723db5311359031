package place

import "herald/api"

// nameBytes tells of each byte below 128 whether it may stand in a name.
var nameBytes = [128]bool{
	'-': true, '.': true, '_': true,
	'0': true, '1': true, '2': true, '3': true, '4': true,
	'5': true, '6': true, '7': true, '8': true, '9': true,
	'A': true, 'B': true, 'C': true, 'D': true, 'E': true, 'F': true, 'G': true,
	'H': true, 'I': true, 'J': true, 'K': true, 'L': true, 'M': true, 'N': true,
	'O': true, 'P': true, 'Q': true, 'R': true, 'S': true, 'T': true, 'U': true,
	'V': true, 'W': true, 'X': true, 'Y': true, 'Z': true,
	'a': true, 'b': true, 'c': true, 'd': true, 'e': true, 'f': true, 'g': true,
	'h': true, 'i': true, 'j': true, 'k': true, 'l': true, 'm': true, 'n': true,
	'o': true, 'p': true, 'q': true, 'r': true, 's': true, 't': true, 'u': true,
	'v': true, 'w': true, 'x': true, 'y': true, 'z': true,
}

func isName(text string) bool {
	if text == "" || len(text) > api.MaxName || text == "." || text == ".." {
		return false
	}
	for i := range len(text) {
		if !isNameByte(text[i]) {
			return false
		}
	}
	return true
}

func isNameByte(b byte) bool {
	return int(b) < len(nameBytes) && nameBytes[b]
}

func areNames(texts []string) bool {
	for _, text := range texts {
		if !isName(text) {
			return false
		}
	}
	return true
}
