package num_test

import (
	"strconv"
	"strings"
	"testing"

	"landau/num"
)

func TestDecimal(t *testing.T) {
	for _, c := range []struct {
		word string
		most int
		want int
	}{
		{"0", num.Most, 0},
		{"7", num.Most, 7},
		{"10", num.Most, 10},
		{"2147483647", num.Most, num.Most},
		{"2147483648", num.Most, num.Most + 1},
		{"2147483650", num.Most, num.Most + 1},
		{"18446744073709551617", num.Most, num.Most + 1},
		{"1" + strings.Repeat("0", 1000), num.Most, num.Most + 1},
		{"20", 20, 20},
		{"21", 20, 21},
		{"999", 20, 21},
		{"0", 0, 0},
		{"1", 0, 1},
		{"5", 0, 1},
	} {
		if got, ok := num.Decimal(c.word, c.most); !ok || got != c.want {
			t.Errorf("Decimal(%q, %d) = %d, %v, want %d", c.word, c.most, got, ok, c.want)
		}
	}
}

func TestParse(t *testing.T) {
	for word, want := range map[string]int{"0": 0, "12": 12, "2147483646": num.Most - 1, "2147483647": num.Most} {
		if got, ok := num.Parse(word); !ok || got != want {
			t.Errorf("Parse(%q) = %d, %v", word, got, ok)
		}
	}
	for _, word := range []string{"", "x", "01", "-1", "2147483648", "4294967296", "18446744073709551617"} {
		if got, ok := num.Parse(word); ok || got != 0 {
			t.Errorf("P4: Parse(%q) = %d, %v", word, got, ok)
		}
	}
}

func TestDecimalRefuses(t *testing.T) {
	for _, word := range []string{"", " ", "00", "01", "-1", "-0", "+1", "1 ", " 1", "1_0", "0x1", "1e3", "1.", "a", "/", ":", "1/", "1:", "\u0661", "\xff", "99999999999x", "9\x00"} {
		if got, ok := num.Decimal(word, num.Most); ok || got != 0 {
			t.Errorf("P4: Decimal(%q) = %d, %v", word, got, ok)
		}
	}
}

func TestDecimalReadsBack(t *testing.T) {
	for n := range 2000 {
		if got, ok := num.Decimal(strconv.Itoa(n), 1999); !ok || got != n {
			t.Errorf("Decimal of %d = %d, %v", n, got, ok)
		}
	}
}
