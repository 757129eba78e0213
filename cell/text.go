package cell

import (
	"strconv"
	"strings"

	"plantwright/api"
)

// The milliseconds of the units of a time.
const (
	milli  = 1
	second = 1000 * milli
	minute = 60 * second
	hour   = 60 * minute
	day    = 24 * hour
)

// beyond fits no kind: numbers that grow stop there, so that no run of digits, however long, leaves 64 bits.
const beyond = api.MaxNumber + 1

// Show: the literal of a value.
func Show(k api.Kind, n int) string {
	if !Fits(k, n) {
		return ""
	}
	switch k {
	case api.Bool:
		if n == 0 {
			return "FALSE"
		}
		return "TRUE"
	case api.Word:
		return "16#" + strings.ToUpper(strconv.FormatInt(int64(n), 16))
	case api.Time:
		return showTime(n)
	}
	return strconv.Itoa(n)
}

func showTime(n int) string {
	if n == 0 {
		return "T#0ms"
	}
	text := "T#"
	part := func(length int, unit string) {
		if n >= length {
			text += strconv.Itoa(n/length) + unit
		}
		n %= length
	}
	part(day, "d")
	part(hour, "h")
	part(minute, "m")
	part(second, "s")
	part(milli, "ms")
	return text
}

// Read: the value of a literal.
func Read(k api.Kind, s string) (int, api.Errno) {
	if !isKind(k) {
		return 0, api.ErrKind
	}
	if len(s) > api.MaxLiteral {
		return 0, api.ErrLong
	}
	n, ok := readAs(k, strings.Map(small, s))
	if !ok {
		return 0, api.ErrText
	}
	if !Fits(k, n) {
		return 0, api.ErrRange
	}
	return n, api.OK
}

// small leaves all but the plain 26 alone: letters of other alphabets that fold into these are none of a literal.
func small(r rune) rune {
	if r >= 'A' && r <= 'Z' {
		return r - 'A' + 'a'
	}
	return r
}

// readAs asks for the form alone: its number may be one that does not fit.
func readAs(k api.Kind, s string) (int, bool) {
	switch k {
	case api.Bool:
		return truth(s == "true"), s == "true" || s == "false"
	case api.Time:
		return readTime(s)
	case api.Int, api.Dint:
		if rest, minus := strings.CutPrefix(s, "-"); minus {
			n, ok := readDigits(rest, 10)
			return -n, ok
		}
	}
	return readNumber(s)
}

func readNumber(s string) (int, bool) {
	if rest, ok := strings.CutPrefix(s, "16#"); ok {
		return readDigits(rest, 16)
	}
	if rest, ok := strings.CutPrefix(s, "2#"); ok {
		return readDigits(rest, 2)
	}
	return readDigits(s, 10)
}

func readDigits(s string, base int) (int, bool) {
	d := digits{base: base}
	for _, r := range s {
		if !d.take(r) {
			return 0, false
		}
	}
	return d.value, d.whole
}

// digits is a number as far as it has come; whole: it may end here, its last letter being a digit.
type digits struct {
	base  int
	value int
	whole bool
}

// take goes on with a letter; false: it cannot stand there.
func (d *digits) take(r rune) bool {
	if r == '_' {
		between := d.whole
		d.whole = false
		return between
	}
	n := worth(r)
	if n < 0 || n >= d.base {
		return false
	}
	d.value = min(d.value*d.base+n, beyond)
	d.whole = true
	return true
}

// worth of a letter as a digit of any base up to 16; -1: it is none.
func worth(r rune) int {
	switch {
	case r >= '0' && r <= '9':
		return int(r - '0')
	case r >= 'a' && r <= 'f':
		return int(r-'a') + 10
	}
	return -1
}

func readTime(s string) (int, bool) {
	s, ok := behindTime(s)
	if !ok {
		return 0, false
	}
	total, last := 0, day+1
	count, unit := digits{base: 10}, ""
	part := func() bool {
		length := unitLength(unit)
		right := count.whole && length > 0 && length < last
		total += count.value * length
		last, count, unit = length, digits{base: 10}, ""
		return right
	}
	for _, r := range s {
		if r >= 'a' && r <= 'z' {
			unit += string(r)
			continue
		}
		if unit != "" && !part() {
			return 0, false
		}
		if !count.take(r) {
			return 0, false
		}
	}
	// The call has to come ahead of reading the total that it adds to.
	right := part()
	return total, right
}

func behindTime(s string) (string, bool) {
	if rest, ok := strings.CutPrefix(s, "time#"); ok {
		return rest, true
	}
	return strings.CutPrefix(s, "t#")
}

// unitLength of what is no unit is 0.
func unitLength(unit string) int {
	switch unit {
	case "d":
		return day
	case "h":
		return hour
	case "m":
		return minute
	case "s":
		return second
	case "ms":
		return milli
	}
	return 0
}
