package cell_test

import (
	"math"
	"strconv"
	"strings"
	"testing"

	"plantwright/api"
	"plantwright/cell"
)

func TestShow(t *testing.T) {
	for _, x := range []struct {
		kind api.Kind
		n    int
		want string
	}{
		{api.Bool, 0, "FALSE"}, {api.Bool, 1, "TRUE"}, {api.Bool, 2, ""}, {api.Bool, -1, ""},
		{api.Int, 0, "0"}, {api.Int, 32767, "32767"}, {api.Int, -32768, "-32768"}, {api.Int, 32768, ""}, {api.Int, -32769, ""},
		{api.Dint, -1, "-1"}, {api.Dint, 2147483647, "2147483647"}, {api.Dint, -2147483648, "-2147483648"}, {api.Dint, 2147483648, ""},
		{api.Word, 0, "16#0"}, {api.Word, 10, "16#A"}, {api.Word, 255, "16#FF"}, {api.Word, 4096, "16#1000"}, {api.Word, 0xBCDE, "16#BCDE"}, {api.Word, 65535, "16#FFFF"}, {api.Word, 65536, ""}, {api.Word, -1, ""},
		{api.Time, 0, "T#0ms"}, {api.Time, 1, "T#1ms"}, {api.Time, 999, "T#999ms"}, {api.Time, 1000, "T#1s"}, {api.Time, 59999, "T#59s999ms"},
		{api.Time, 60000, "T#1m"}, {api.Time, 60001, "T#1m1ms"}, {api.Time, 3599999, "T#59m59s999ms"}, {api.Time, 3600000, "T#1h"},
		{api.Time, 86399999, "T#23h59m59s999ms"}, {api.Time, 86400000, "T#1d"}, {api.Time, 90061001, "T#1d1h1m1s1ms"}, {api.Time, 86400000 + 2000, "T#1d2s"},
		{api.Time, 4294967295, "T#49d17h2m47s295ms"}, {api.Time, 4294967296, ""}, {api.Time, -1, ""},
		{api.None, 0, ""}, {6, 1, ""}, {-1, 0, ""}, {math.MaxInt, 0, ""},
	} {
		if got := cell.Show(x.kind, x.n); got != x.want {
			t.Errorf("Show(%d, %d) is %q, not %q", x.kind, x.n, got, x.want)
		}
	}
}

// literal is a text that is read, and what comes of it.
type literal struct {
	kind api.Kind
	text string
	n    int
	e    api.Errno
}

func readAll(t *testing.T, l []literal) {
	t.Helper()
	for _, x := range l {
		if n, e := cell.Read(x.kind, x.text); n != x.n || e != x.e {
			t.Errorf("Read(%d, %q) is %d, %d, not %d, %d", x.kind, x.text, n, e, x.n, x.e)
		}
	}
}

func TestReadBool(t *testing.T) {
	readAll(t, []literal{
		{api.Bool, "TRUE", 1, 0}, {api.Bool, "FALSE", 0, 0}, {api.Bool, "tRuE", 1, 0}, {api.Bool, "false", 0, 0},
		{api.Bool, "", 0, api.ErrText}, {api.Bool, "1", 0, api.ErrText}, {api.Bool, "0", 0, api.ErrText}, {api.Bool, "TRUE ", 0, api.ErrText},
		{api.Bool, "TRU", 0, api.ErrText}, {api.Bool, "FALſE", 0, api.ErrText}, {api.Bool, "TRUE\x00", 0, api.ErrText},
	})
}

func TestReadNumbers(t *testing.T) {
	for _, k := range []api.Kind{api.Int, api.Dint, api.Word} {
		readAll(t, []literal{
			{k, "0", 0, 0}, {k, "00012", 12, 0}, {k, "1_0", 10, 0}, {k, "1_2_3", 123, 0}, {k, "32767", 32767, 0},
			{k, "16#7f", 127, 0}, {k, "16#7F", 127, 0}, {k, "16#1_0", 16, 0}, {k, "16#aBc", 2748, 0}, {k, "16#dEf", 3567, 0}, {k, "2#1010_1010", 170, 0}, {k, "2#0", 0, 0}, {k, "16#00000000000000000000000000000000000FF", 255, 0},
			{k, "", 0, api.ErrText}, {k, "_", 0, api.ErrText}, {k, "_1", 0, api.ErrText}, {k, "1_", 0, api.ErrText}, {k, "1__0", 0, api.ErrText},
			{k, "16#", 0, api.ErrText}, {k, "2#", 0, api.ErrText}, {k, "16#_1", 0, api.ErrText}, {k, "16#1_", 0, api.ErrText}, {k, "16#1__0", 0, api.ErrText}, {k, "16_#1", 0, api.ErrText}, {k, "1_6#1", 0, api.ErrText}, {k, "016#1", 0, api.ErrText},
			{k, "16#G", 0, api.ErrText}, {k, "2#2", 0, api.ErrText}, {k, "2#1_2", 0, api.ErrText}, {k, "8#7", 0, api.ErrText}, {k, "16#16#1", 0, api.ErrText}, {k, "A", 0, api.ErrText}, {k, "1A", 0, api.ErrText},
			{k, "+1", 0, api.ErrText}, {k, " 1", 0, api.ErrText}, {k, "1 ", 0, api.ErrText}, {k, "1.0", 0, api.ErrText}, {k, "-16#5", 0, api.ErrText}, {k, "-2#1", 0, api.ErrText}, {k, "16#-5", 0, api.ErrText},
			{k, "-", 0, api.ErrText}, {k, "--1", 0, api.ErrText}, {k, "-_1", 0, api.ErrText}, {k, "- 1", 0, api.ErrText}, {k, "TRUE", 0, api.ErrText}, {k, "T#1s", 0, api.ErrText}, {k, "\xff", 0, api.ErrText}, {k, "1\xff", 0, api.ErrText}, {k, "١", 0, api.ErrText}, {k, "１", 0, api.ErrText},
			{k, strings.Repeat("9", 40), 0, api.ErrRange}, {k, "16#" + strings.Repeat("F", 37), 0, api.ErrRange}, {k, "2#1" + strings.Repeat("0", 37), 0, api.ErrRange},
			{k, "18446744073709551616", 0, api.ErrRange}, {k, "18446744073709551617", 0, api.ErrRange}, {k, "16#10000000000000001", 0, api.ErrRange},
		})
	}
}

// TestReadStrangeDigits goes through all single bytes, so that the neighbours of digits and letters are among them.
func TestReadStrangeDigits(t *testing.T) {
	for b := range 256 {
		one := string([]byte{byte(b)})
		for ahead, digits := range map[string]string{"": "0123456789", "1": "0123456789", "2#": "01", "16#": "0123456789abcdefABCDEF"} {
			_, e := cell.Read(api.Dint, ahead+one)
			if right := strings.Contains(digits, one); right != (e == api.OK) {
				t.Errorf("Read of %q answers %d", ahead+one, e)
			}
		}
		if _, e := cell.Read(api.Time, "T#1"+one); (e == api.OK) != strings.Contains("dhmsDHMS", one) {
			t.Errorf("Read of %q answers %d", "T#1"+one, e)
		}
	}
}

func TestReadRanges(t *testing.T) {
	readAll(t, []literal{
		{api.Int, "-5", -5, 0}, {api.Int, "-0", 0, 0}, {api.Int, "-1_0", -10, 0}, {api.Int, "-32768", -32768, 0}, {api.Int, "-32769", 0, api.ErrRange}, {api.Int, "32768", 0, api.ErrRange}, {api.Int, "16#7FFF", 32767, 0}, {api.Int, "16#FFFF", 0, api.ErrRange}, {api.Int, "-" + strings.Repeat("9", 39), 0, api.ErrRange},
		{api.Dint, "-5", -5, 0}, {api.Dint, "2147483647", 2147483647, 0}, {api.Dint, "2147483648", 0, api.ErrRange}, {api.Dint, "-2147483648", -2147483648, 0}, {api.Dint, "-2147483649", 0, api.ErrRange}, {api.Dint, "4294967296", 0, api.ErrRange}, {api.Dint, "2#1111111111111111111111111111111", 2147483647, 0},
		{api.Word, "65535", 65535, 0}, {api.Word, "65536", 0, api.ErrRange}, {api.Word, "16#ffff", 65535, 0}, {api.Word, "16#1_0000", 0, api.ErrRange}, {api.Word, "2#1111_1111_1111_1111", 65535, 0}, {api.Word, "-5", 0, api.ErrText}, {api.Word, "-0", 0, api.ErrText},
	})
}

func TestReadTime(t *testing.T) {
	readAll(t, []literal{
		{api.Time, "T#1d2h3m4s5ms", 93784005, 0}, {api.Time, "t#90s", 90000, 0}, {api.Time, "TIME#0ms", 0, 0}, {api.Time, "tImE#1D2H3M4S5Ms", 93784005, 0}, {api.Time, "T#1m", 60000, 0}, {api.Time, "T#1ms", 1, 0}, {api.Time, "T#1h1ms", 3600001, 0}, {api.Time, "T#1d1s", 86401000, 0},
		{api.Time, "T#1_000ms", 1000, 0}, {api.Time, "T#0d0h", 0, 0}, {api.Time, "T#007s", 7000, 0}, {api.Time, "T#25h61m", 93660000, 0},
		{api.Time, "T#4294967295ms", 4294967295, 0}, {api.Time, "T#49d17h2m47s295ms", 4294967295, 0}, {api.Time, "T#49d17h2m47s296ms", 0, api.ErrRange}, {api.Time, "T#4294967296ms", 0, api.ErrRange}, {api.Time, "T#50d", 0, api.ErrRange},
		{api.Time, "T#" + strings.Repeat("9", 37) + "d", 0, api.ErrRange}, {api.Time, "T#18446744073709551616ms", 0, api.ErrRange}, {api.Time, "T#9999999d9999999h9999999m9999999s99ms", 0, api.ErrRange},
		{api.Time, "", 0, api.ErrText}, {api.Time, "T", 0, api.ErrText}, {api.Time, "T#", 0, api.ErrText}, {api.Time, "TIME#", 0, api.ErrText}, {api.Time, "TIM#1s", 0, api.ErrText}, {api.Time, "1s", 0, api.ErrText}, {api.Time, "5", 0, api.ErrText}, {api.Time, "T#T#1s", 0, api.ErrText}, {api.Time, "T#TIME#1s", 0, api.ErrText}, {api.Time, "T1s", 0, api.ErrText},
		{api.Time, "T#5", 0, api.ErrText}, {api.Time, "T#s", 0, api.ErrText}, {api.Time, "T#1s5", 0, api.ErrText}, {api.Time, "T#5x", 0, api.ErrText}, {api.Time, "T#5sm", 0, api.ErrText}, {api.Time, "T#5mss", 0, api.ErrText}, {api.Time, "T#5us", 0, api.ErrText},
		{api.Time, "T#5s3m", 0, api.ErrText}, {api.Time, "T#1s1s", 0, api.ErrText}, {api.Time, "T#1d1d", 0, api.ErrText}, {api.Time, "T#1ms1s", 0, api.ErrText}, {api.Time, "T#1h1d", 0, api.ErrText}, {api.Time, "T#1x1s", 0, api.ErrText}, {api.Time, "T#1ms1ms", 0, api.ErrText}, {api.Time, "T#1m1h", 0, api.ErrText},
		{api.Time, "T#_1s", 0, api.ErrText}, {api.Time, "T#1_s", 0, api.ErrText}, {api.Time, "T#1__0s", 0, api.ErrText}, {api.Time, "T#1m_2s", 0, api.ErrText}, {api.Time, "T#1m2_s", 0, api.ErrText}, {api.Time, "T#1s_", 0, api.ErrText}, {api.Time, "T#1_m2s", 0, api.ErrText}, {api.Time, "T#_", 0, api.ErrText},
		{api.Time, "T#-5s", 0, api.ErrText}, {api.Time, "-T#5s", 0, api.ErrText}, {api.Time, "T#1 s", 0, api.ErrText}, {api.Time, "T#1m 1s", 0, api.ErrText}, {api.Time, "T#1.5s", 0, api.ErrText}, {api.Time, "T#16#Fs", 0, api.ErrText}, {api.Time, "T#1ſ", 0, api.ErrText}, {api.Time, "T#1s\xff", 0, api.ErrText}, {api.Time, "T# 1s", 0, api.ErrText},
		{api.Time, "T#9999999999sx", 0, api.ErrText}, {api.Time, "T#99999999999d1d", 0, api.ErrText},
	})
}

func TestReadErrorsInOrder(t *testing.T) {
	long := strings.Repeat("x", api.MaxLiteral+1)
	for _, k := range noKinds {
		readAll(t, []literal{{k, "1", 0, api.ErrKind}, {k, "", 0, api.ErrKind}, {k, long, 0, api.ErrKind}, {k, "TRUE", 0, api.ErrKind}})
	}
	for _, x := range kinds {
		readAll(t, []literal{
			{x.kind, long, 0, api.ErrLong},
			{x.kind, strings.Repeat("9", 41), 0, api.ErrLong},
			{x.kind, strings.Repeat("0", 41), 0, api.ErrLong},
			{x.kind, strings.Repeat("9", 100000), 0, api.ErrLong},
			{x.kind, long[1:], 0, api.ErrText},
			{x.kind, strings.Repeat("9", 39) + "x", 0, api.ErrText},
		})
	}
	readAll(t, []literal{
		{api.Int, strings.Repeat("0", 39) + "7", 7, 0},
		{api.Int, strings.Repeat("0", 40) + "7", 0, api.ErrLong},
		{api.Int, strings.Repeat("ä", 20), 0, api.ErrText}, // 40 bytes
		{api.Int, strings.Repeat("ä", 21), 0, api.ErrLong}, // 42 bytes, 21 letters
	})
}

func TestWhatIsShownIsRead(t *testing.T) {
	for _, x := range kinds {
		for _, n := range append(numbers(), x.low, x.high) {
			s := cell.Show(x.kind, n)
			if !cell.Fits(x.kind, n) {
				continue
			}
			for _, s := range []string{s, strings.ToLower(s)} {
				if m, e := cell.Read(x.kind, s); m != n || e != api.OK {
					t.Errorf("%d of kind %d is shown as %q, which is read as %d, %d", n, x.kind, s, m, e)
				}
			}
		}
	}
}

func TestEveryWordIsRead(t *testing.T) {
	for n := range 65536 {
		want := "16#" + strings.ToUpper(strconv.FormatInt(int64(n), 16))
		if s := cell.Show(api.Word, n); s != want {
			t.Fatalf("%d is shown as %q", n, s)
		}
		for _, s := range []string{want, strconv.Itoa(n)} {
			if m, e := cell.Read(api.Word, s); m != n || e != api.OK {
				t.Fatalf("%q is read as %d, %d", s, m, e)
			}
		}
		i := n - 32768
		if m, e := cell.Read(api.Int, cell.Show(api.Int, i)); m != i || e != api.OK {
			t.Fatalf("%d is read as %d, %d", i, m, e)
		}
	}
}

// TestReadEnds goes through texts of the letters that matter: whatever is read is a value, and is told as the same again.
func TestReadEnds(t *testing.T) {
	letters := []string{"t", "#", "1", "6", "_", "s", "m", "-", "\xff", ""}
	var texts []string
	for _, a := range letters {
		for _, b := range letters {
			for _, c := range letters {
				for _, d := range letters {
					texts = append(texts, a+b+c+d, "T#1"+a+b+c+d)
				}
			}
		}
	}
	for _, s := range texts {
		for _, k := range allKinds() {
			n, e := cell.Read(k, s)
			if e != api.OK && n != 0 {
				t.Fatalf("Read(%d, %q) is %d, %d", k, s, n, e)
			}
			if e != api.OK {
				continue
			}
			if m, f := cell.Read(k, cell.Show(k, n)); m != n || f != api.OK {
				t.Fatalf("Read(%d, %q) is %d, which comes back as %d, %d", k, s, n, m, f)
			}
		}
	}
}
