// Package num reads numbers as every layer's texts write them.
package num

// Most is the greatest number that texts tell, where a layer has no bound of its own.
const Most = 1<<31 - 1

// Parse reads digits without leading noughts that tell a number up to Most; false: it is no such number.
func Parse(word string) (int, bool) {
	n, ok := Decimal(word, Most)
	if !ok || n > Most {
		return 0, false
	}
	return n, true
}

// Decimal reads digits without leading noughts; false: it is no such number.
// What is above most is told as one more than that, so that no length of digits overflows
// (most is 0 to Most).
func Decimal(word string, most int) (int, bool) {
	if word == "" || len(word) > 1 && word[0] == '0' {
		return 0, false
	}
	n := 0
	for i := range len(word) {
		c := word[i]
		if c < '0' || c > '9' {
			return 0, false
		}
		n = min(n*10+int(c-'0'), most+1)
	}
	return n, true
}
