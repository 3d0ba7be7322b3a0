package words_test

import (
	"math"
	"math/big"
	"regexp"
	"strconv"
	"strings"
	"testing"
)

func TestP16_4Number(t *testing.T) {
	for n := range 2000 {
		wantNumber(t, strconv.Itoa(n), n)
		wantNoNumber(t, "0"+strconv.Itoa(n))
	}
	for _, n := range []int{1 << 31, 1<<32 - 1, 1 << 32, 1 << 40, 1<<40 + 1, 999999999999999999, 1000000000000000000, math.MaxInt - 1, math.MaxInt} {
		wantNumber(t, strconv.Itoa(n), n)
	}
	power := 1
	for range 18 {
		power *= 10
		wantNumber(t, strconv.Itoa(power), power)
		wantNumber(t, strconv.Itoa(power-1), power-1)
	}
}

func TestP16_4NoNumber(t *testing.T) {
	for _, word := range []string{
		"", "00", "000", "01", "07", "007", "-0", "-1", "+0", "+1", "+", "-", " ", " 1", "1 ", "1 2", "1\n", "1_000", "1,000", "1.0", "1.", ".1", "1e3",
		"0x1", "0b1", "0o7", "x", "1a", "a1", "ff", "१", "１", "1\x00", "\x001", "\"1\"", "NaN", "inf", "--1", "- 1",
		"-9223372036854775808", "-9223372036854775807", "+9223372036854775807",
		"9223372036854775808", "9223372036854775809", "9223372036854775810", "9300000000000000000", "9999999999999999999",
		"10000000000000000000", "09223372036854775807", "18446744073709551615", "18446744073709551616", "18446744073709551617", "18446744073709551623",
		"92233720368547758070", "100000000000000000000", "340282366920938463463374607431768211456", "36893488147419103233",
		strings.Repeat("9", 1000), "1" + strings.Repeat("0", 100000), strings.Repeat("0", 100000), strings.Repeat("0", 1000) + "1",
	} {
		wantNoNumber(t, word)
	}
}

// Each of the 256 bytes ahead of digits, between them, behind them, and alone.
func TestP16_4EachByte(t *testing.T) {
	for n := range 256 {
		b := string([]byte{byte(n)})
		if n >= '0' && n <= '9' {
			wantNumber(t, b, n-'0')
			wantNumber(t, "1"+b+"2", 102+10*(n-'0'))
			wantNumber(t, "12"+b, 120+n-'0')
			continue
		}
		for _, word := range []string{b, b + "12", "1" + b + "2", "12" + b, "922337203685477580" + b, b + "9223372036854775807"} {
			wantNoNumber(t, word)
		}
	}
}

// Around the powers of two, where numbers of less bits would come round.
func TestP16_4AroundPowers(t *testing.T) {
	form := regexp.MustCompile(`^(0|[1-9][0-9]*)$`)
	most := big.NewInt(math.MaxInt)
	for power := uint(1); power <= 200; power++ {
		for off := int64(-12); off <= 12; off++ {
			n := new(big.Int).Add(new(big.Int).Lsh(big.NewInt(1), power), big.NewInt(off))
			if form.MatchString(n.String()) && n.Cmp(most) <= 0 {
				wantNumber(t, n.String(), int(n.Int64()))
			} else {
				wantNoNumber(t, n.String())
			}
		}
	}
}
