package tests

import (
	"math"
	"slices"
	"strings"
	"testing"

	"loop.example/g01181/impl"
)

func TestComplexText(t *testing.T) {
	cases := []struct {
		list []complex64
		want string
	}{
		{nil, "none"},
		{[]complex64{}, "none"},
		{[]complex64{1}, "3f80000000000000"},
		{[]complex64{1, complex(0, -2)}, "3f80000000000000,00000000c0000000"},
		{[]complex64{complex(minusZero(), math.SmallestNonzeroFloat32)}, "8000000000000001"},
		{[]complex64{complex(inf32(), -inf32())}, "7f800000ff800000"},
		{[]complex64{complex(nan32(), bits32(0xffc01234))}, "7fc000007fc00000"},
		{[]complex64{complex(bits32(0x0abcdef0), bits32(0x12345678))}, "0abcdef012345678"},
	}
	for _, c := range cases {
		got, ok := impl.ComplexText(c.list)
		isEqual(t, "list taken", ok, true)
		isEqual(t, "text", got, c.want)
		back, ok := impl.ReadComplex(c.want)
		if !ok || !sameList(back, c.list) {
			t.Errorf("list of %s: got %v, %v", c.want, back, ok)
		}
	}
}

func TestReadComplexRefuses(t *testing.T) {
	one := "3f80000000000000"
	refused := []string{
		"", " ", "None", "none,", ",none", "none,none", "none ", one + ",none",
		"3f800000", one[1:], one + "0", one + ",", "," + one, one + ",," + one, one + " ", " " + one,
		one + ", " + one, one + ";" + one, strings.ToUpper(one), "3g80000000000000", "+f80000000000000", "3f80_00000000000",
		"0x3f800000000000", "-000000000000000", "7fc0000100000000", "ffc0000000000000", "000000007f800001", "00000000ffffffff",
		"3f8000000000000\u00e9", "3f8000000000000\x00", strings.Repeat(",", 63),
	}
	for _, s := range refused {
		if list, ok := impl.ReadComplex(s); ok || len(list) != 0 {
			t.Errorf("%q: got %v, %v", s, list, ok)
		}
	}
}

func TestComplexTextsHaveALimit(t *testing.T) {
	text, ok := impl.ComplexText(ones(impl.MaxNumbers))
	isEqual(t, "most numbers taken", ok, true)
	isEqual(t, "length of the greatest text", len(text), 64*17-1)
	list, ok := impl.ReadComplex(text)
	if !ok || !sameList(list, ones(impl.MaxNumbers)) {
		t.Errorf("most numbers: got %v, %v", list, ok)
	}
	more, ok := impl.ComplexText(ones(impl.MaxNumbers + 1))
	isEqual(t, "one number more refused", ok, false)
	isEqual(t, "text of one number more", more, "")
	list, ok = impl.ReadComplex(text + ",3f80000000000000")
	if ok || len(list) != 0 {
		t.Errorf("text of one number more: got %v, %v", list, ok)
	}
}

func TestIsName(t *testing.T) {
	for _, s := range []string{"a", "z", "ring", "abcdefgh"} {
		isEqual(t, "name "+s, impl.IsName(s), true)
	}
	for _, s := range []string{"", "abcdefghi", "A", "Ring", "a1", "1", "a b", " a", "a ", "a-b", "`", "{", "\u00e9", "a\x00", "a\xff"} {
		isEqual(t, "no name "+s, impl.IsName(s), false)
	}
}

func TestDecimal(t *testing.T) {
	cases := []struct {
		n    int64
		want string
	}{
		{0, "0"},
		{7, "7"},
		{-4, "-4"},
		{1200, "1200"},
		{impl.MaxValue, "1000000000000000"},
		{math.MaxInt64, "9223372036854775807"},
		{math.MinInt64, "-9223372036854775808"},
	}
	for _, c := range cases {
		isEqual(t, "decimal", impl.Decimal(c.n), c.want)
	}
}

func TestReadDecimal(t *testing.T) {
	for _, n := range []int64{0, 1, -1, 10, -907, 999999999999999, impl.MaxValue, -impl.MaxValue} {
		got, ok := impl.ReadDecimal(impl.Decimal(n))
		isEqual(t, "decimal taken", ok, true)
		isEqual(t, "number", got, n)
	}
	refused := []string{
		"", "-", "+", "-0", "+1", "00", "01", "-01", " 1", "1 ", "1_0", "0x1", "1.0", "1e3", "--1", "a", "1a", "1,2", "none",
		"1000000000000001", "-1000000000000001", "9223372036854775807", "9223372036854775808", "-9223372036854775808",
		"100000000000000000000000000", "\u0661", "1\x00", "1\n",
	}
	for _, s := range refused {
		got, ok := impl.ReadDecimal(s)
		isEqual(t, "decimal "+s+" refused", ok, false)
		isEqual(t, "number of a decimal refused", got, 0)
	}
}

func TestListText(t *testing.T) {
	cases := []struct {
		list []int64
		want string
	}{
		{nil, "none"},
		{[]int64{}, "none"},
		{[]int64{0}, "0"},
		{[]int64{3, -2, 3}, "3,-2,3"},
		{[]int64{impl.MaxValue, -impl.MaxValue}, "1000000000000000,-1000000000000000"},
	}
	for _, c := range cases {
		got, ok := impl.ListText(c.list)
		isEqual(t, "list taken", ok, true)
		isEqual(t, "text", got, c.want)
		back, ok := impl.ReadList(c.want)
		if !ok || !slices.Equal(back, c.list) {
			t.Errorf("list of %s: got %v, %v", c.want, back, ok)
		}
	}
	refused := [][]int64{{impl.MaxValue + 1}, {-impl.MaxValue - 1}, {1, math.MaxInt64}, {math.MinInt64, 1}}
	for _, list := range refused {
		got, ok := impl.ListText(list)
		isEqual(t, "list refused", ok, false)
		isEqual(t, "text of a list refused", got, "")
	}
}

func TestReadListRefuses(t *testing.T) {
	refused := []string{
		"", "none,1", "1,none", "None", "1,", ",1", "1,,2", "1, 2", "01", "-0", "1;2", "1000000000000001",
		"-1000000000000001,1", "1\n", strings.Repeat(",", 63),
	}
	for _, s := range refused {
		if list, ok := impl.ReadList(s); ok || len(list) != 0 {
			t.Errorf("%q: got %v, %v", s, list, ok)
		}
	}
}

func TestListTextsHaveALimit(t *testing.T) {
	most := make([]int64, impl.MaxItems)
	for i := range most {
		most[i] = int64(i) - 9
	}
	text, ok := impl.ListText(most)
	isEqual(t, "most items taken", ok, true)
	list, ok := impl.ReadList(text)
	if !ok || !slices.Equal(list, most) {
		t.Errorf("most items: got %v, %v", list, ok)
	}
	more, ok := impl.ListText(append(slices.Clone(most), 1))
	isEqual(t, "one item more refused", ok, false)
	isEqual(t, "text of one item more", more, "")
	list, ok = impl.ReadList(text + ",1")
	if ok || len(list) != 0 {
		t.Errorf("text of one item more: got %v, %v", list, ok)
	}
}

func TestCheckOf(t *testing.T) {
	cases := []struct {
		start int64
		s     string
		want  int64
	}{
		{0, "", 0},
		{65002, "", 65002},
		{0, "a", 124},
		{0, "ab", 641*124 + 98 + 27 - 65003},
		{1, "a", 765},
		{65002, "\x00", 64389},
		{0, "\xff", 282},
		{0, "\u00e9", (641*(0xc3+27) + 0xa9 + 27) % 65003},
	}
	for _, c := range cases {
		got, ok := impl.CheckOf(c.start, c.s)
		isEqual(t, "start taken", ok, true)
		isEqual(t, "check number", got, c.want)
	}
	for _, start := range []int64{-1, impl.CheckSize, math.MaxInt64, math.MinInt64} {
		got, ok := impl.CheckOf(start, "a")
		isEqual(t, "start refused", ok, false)
		isEqual(t, "check number of a start refused", got, 0)
	}
	// A text can be checked in parts, each beginning with what the part before gave.
	first, _ := impl.CheckOf(5, "shot 1\n")
	second, _ := impl.CheckOf(first, "none")
	whole, _ := impl.CheckOf(5, "shot 1\nnone")
	isEqual(t, "check number in parts", second, whole)
}
