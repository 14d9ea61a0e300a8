package shell

import (
	"fmt"
	"math/rand"
	"slices"
	"strings"
	"testing"

	"pergola/api"
	"pergola/replay"
	"pergola/script"
)

// play holds the answers of lines against those that are wanted; both stand in one list, `line > answer / answer ..`.
func play(t *testing.T, l ...string) {
	t.Helper()
	lines, want := []string{}, ""
	for _, s := range l {
		line, answers, told := strings.Cut(s, " > ")
		lines = append(lines, line)
		if told {
			want += strings.ReplaceAll(answers, " / ", "\n") + "\n"
		}
	}
	text := strings.Join(lines, "\n")
	for _, text := range []string{text, text + "\n"} {
		if got := Play(text); got != want {
			t.Errorf("%s\n got %q\nwant %q", text, got, want)
		}
	}
}

func TestExample(t *testing.T) {
	play(t, "begin > ok", "put 1 point 0,0 > ok", "commit > ok", "nearest 3,4 1 > ok 1@25")
}

func TestP30_1EachLine(t *testing.T) {
	play(t, "", "# a remark", "#", "begin > ok", "begin > error 11: db",
		"put 7 box 0,0 2,3 > ok", "put 3 interval -5 9 > ok", "put 4 poly 0,0 4,0 0,4 > ok", "put 7 point 1,1 > error 6: db", "put 0 point 1,1 > ok", "del 0 > ok", "del 0 > error 7: db",
		"get 7 > ok [box 0,0 2,3]", "search has 1,0 > ok 3 4 7", "len > ok 0", "items > ok", "commit > ok", "len > ok 3", "commit > error 11: db",
		"items > 3 interval -5 9 / 4 poly 0,0 4,0 0,4 / 7 box 0,0 2,3 / ok", "get 7 > ok [box 0,0 2,3]", "get 8 > ok",
		"search meets 3,0 9,9 > ok 3 4", "search inside 0,0 4,4 > ok 4 7", "search cross 5,-1 8,-1 5,9 > ok 3",
		"nearest 5,3 2 > ok 4@8 3@9", "nearest 0,5 9 > ok 4@1 7@4 3@25", "nearest -6,1 0 > ok", "nearest 4,1 3 > ok 4@1/2 3@1 7@4",
		"query has 0,0 > ok 1", "near -5,-1 > ok 2", "next 1 > ok 3@none", "next 2 > ok 3@1", "next 2 > ok 4@26", "next 2 > ok 7@26", "next 2 > error 15: db", "end 2 > ok", "end 2 > error 15: db", "next 9 > error 15: db",
		"bulk 1 point 0,0 > error 1: db", "vacuum > ok", "abort > error 11: db", "begin > ok", "del 7 > ok", "abort > ok", "len > ok 3",
		"close > ok", "len > ok 0", "items > ok", "close > error 12: db", "get 7 > ok", "next 1 > error 12: db")
}

func TestP30_1Bulk(t *testing.T) {
	play(t, "bulk 5 point 0,0; 2 interval 0 1; 9 box 0,0 1,1 > ok", "items > 2 interval 0 1 / 5 point 0,0 / 9 box 0,0 1,1 / ok", "new 512 4 > ok",
		"bulk 5 point 0,0 > ok", "new 512 4 > ok", "bulk > error 1", "bulk  > error 1", "bulk 5 > error 1", "bulk 5  > error 10", "bulk 5 point 0,0; > error 10", "bulk 5 point 0,0;  > error 1", "bulk 5 point 0,0; 6 > error 1",
		"bulk 5 point 0,0;6 point 0,0 > error 10", "bulk 5 point 0,0; 06 point 0,0 > error 1", "bulk x junk; 6 junk > error 1", "bulk 5 junk; x junk > error 10", "bulk 5 point 0,0; x > error 1", "bulk 5 point 0,0;  6 point 0,0 > error 1",
		"bulk 5 point 0,0; 5 point 0,0 > error 6: db", "bulk 1234567890 point 0,0 > error 1", "bulk 5 point 0,0;; 6 point 0,0 > error 10", "len > ok 0")
	many := "bulk 0 point 0,0"
	for i := 1; i <= 500; i++ {
		many += fmt.Sprintf("; %d point 0,0", i)
	}
	play(t, "new 8192 16 > ok", many+" > error 13: db")
}

func TestP30_1CutAndCrash(t *testing.T) {
	play(t, "begin > ok", "put 1 point 1,1 > ok", "commit > ok", "begin > ok", "put 2 point 2,2 > ok", "crash - > ok", "items > 1 point 1,1 / ok", "commit > error 11: db",
		"begin > ok", "put 2 point 2,2 > ok", "cut 1 > ok", "commit > error 9: db", "begin > error 9: db", "len > ok 1", "crash 1 > ok", "len > ok 2",
		"begin > ok", "put 3 point 2,2 > ok", "cut 1 > ok", "commit > error 9: db", "crash 0 > ok", "len > ok 2", "vacuum > ok",
		"begin > ok", "put 3 point 2,2 > ok", "cut 1 > ok", "commit > error 9: db", "tear 1 0 > ok", "len > ok 2",
		"begin > ok", "put 3 point 2,2 > ok", "cut 1 > ok", "commit > error 9: db", "tear 01 7 > ok", "len > ok 2", "tear - 0 > ok", "tear 10 999999999 > ok",
		"crash > error 1", "crash  > error 1", "crash 2 > error 1", "crash 1 0 > error 1", "crash -1 > error 1", "tear > error 1", "tear 1 > error 1", "tear 1 -1 > error 1", "tear - > error 1", "tear 1 2 3 > error 1", "tear  1 > error 1", "crash -- > error 1", "cut -1 > error 1", "cut > error 1", "len > ok 2")
}

func TestP30_1New(t *testing.T) {
	play(t, "begin > ok", "put 1 point 1,1 > ok", "commit > ok", "new 511 4 > error 1", "new 0 4 > error 1", "new 512 3 > error 1", "new 8193 4 > error 1", "new 512 17 > error 1", "new 999999999 999999999 > error 1",
		"new > error 1", "new 512 > error 1", "new 512 4 4 > error 1", "new  512 4 > error 1", "new 512 4  > error 1", "new 0512 4 > error 1", "new 512 -4 > error 1", "new 512,4 > error 1", "len > ok 1", "new 8192 16 > ok", "len > ok 0", "crash - > ok")
}

func TestP30_1OtherLines(t *testing.T) {
	play(t, "begin > ok", "put 1 point 1,1 > ok")
	wrong := []string{" ", " begin", "begin ", "begin 1", "Begin", "commit x", "abort ", "vacuum 1", "close now", "items ", "items 1", "len ", "len 1", "nonsense", "put", "put 1", "put 01 point 0,0", "put -1 point 0,0", "put 1234567890 point 0,0", "put x point 0,0", "put  1 point 0,0", "put x junk",
		"del", "del ", "del x", "del 1 2", "del 1 ", "del -1", "get", "get 00", "get +1", "next", "next -1", "end", "end x", "search", "query", "nearest", "nearest 1,1", "nearest 1,1 ", "nearest 1,1 -1", "nearest 1,1 1 1", "nearest 1 1 1", "nearest 1,01 1", "nearest -0,1 1", "nearest 1,-0 1", "nearest 1,2,3 1", "nearest ,1 1", "nearest 1, 1", "nearest --1,1 1", "nearest 1234567890,1 1", "nearest 1,1 1234567890",
		"near", "near ", "near 1", "near 1,1 1", "near 1,-", "near +1,1", "tear", "cut x", "new", "\tbegin", "begin\r", "12", "-", "ok", "put 1\tpoint 0,0", "\x00", "put ١ point 0,0"}
	l := []string{}
	for _, w := range wrong {
		l = append(l, w+" > error 1")
	}
	play(t, append(l, "len > ok 0")...)
	for _, w := range []string{"put 1 ", "put 1 point", "put 1 point 0,0 ", "put 1  point 0,0", "put 1 box 1,1 0,0", "put 1 poly 0,0 1,1 2,2", "put 1 point 1073741824,0", "search ", "search has", "search point 0,0", "search  has 0,0", "search has 0,0 ", "query ", "query meets 1,1 0,0", "query cross 0,0 1,1"} {
		play(t, "begin > ok", w+" > error 10", "get 1 > ok", "abort > ok")
	}
	play(t, "nearest -999999999,999999999 999999999 > ok", "nearest 0,-1 0 > ok", "get 999999999 > ok", "get 0 > ok", "search has 1073741823,-1073741823 > ok")
}

func TestP30_1Limits(t *testing.T) {
	many := "error 13\n"
	cases := map[string]struct {
		text string
		want string
	}{
		"nothing":             {"", ""},
		"an empty line":       {"\n", ""},
		"10000 lines":         {strings.Repeat("len\n", 10000), strings.Repeat("ok 0\n", 10000)},
		"likewise":            {strings.TrimSuffix(strings.Repeat("len\n", 10000), "\n"), strings.Repeat("ok 0\n", 10000)},
		"one more":            {strings.Repeat("len\n", 10001), many},
		"one more, an end":    {strings.Repeat("\n", 10000) + "len", many},
		"2^18 bytes":          {"#" + strings.Repeat("x", 1<<18-1), ""},
		"one byte more":       {"#" + strings.Repeat("x", 1<<18), many},
		"the last without 10": {"len\nlen", "ok 0\nok 0\n"},
	}
	for what, c := range cases {
		if got := Play(c.text); got != c.want {
			t.Errorf("%s: %.60q", what, got)
		}
	}
}

// someLines is a script by chance.
func someLines(r *rand.Rand, n int) []string {
	l := []string{}
	number := func() int { return r.Intn(12) }
	object := func() string {
		x, y := number(), number()
		return []string{fmt.Sprintf("point %d,%d", x, -y), fmt.Sprintf("interval %d %d", -x, y), fmt.Sprintf("box %d,%d %d,%d", x, y, x+2, y+3), fmt.Sprintf("poly %d,%d %d,%d %d,%d", x, y, x+5, y, x, y+5)}[r.Intn(4)]
	}
	for range n {
		forms := []string{"begin", "begin", "commit", "commit", "abort", "vacuum", "items", "len", "close", "junk", "# x", "",
			fmt.Sprintf("put %d %s", number(), object()), fmt.Sprintf("put %d %s", number(), object()), fmt.Sprintf("put %d %s", number(), object()), fmt.Sprintf("del %d", number()), fmt.Sprintf("get %d", number()),
			fmt.Sprintf("search has %d,%d", number(), number()), fmt.Sprintf("query meets %d,0 12,12", number()), fmt.Sprintf("nearest %d,%d %d", number(), number(), number()), fmt.Sprintf("near %d,%d", number(), number()),
			fmt.Sprintf("next %d", number()), fmt.Sprintf("end %d", number()), fmt.Sprintf("bulk %d %s; %d %s", number(), object(), number(), object()),
			fmt.Sprintf("cut %d", r.Intn(40)), "crash 10", "crash -", fmt.Sprintf("tear 011 %d", number()), "new 512 5", "new 1 1"}
		form := forms[r.Intn(len(forms))]
		if (form == "close" || strings.HasPrefix(form, "new")) && r.Intn(5) > 0 {
			form = "commit"
		}
		l = append(l, form)
	}
	return l
}

func TestP30_2P30_3(t *testing.T) {
	for seed := range int64(30) {
		r := rand.New(rand.NewSource(seed))
		l := someLines(r, 150)
		all := Play(strings.Join(l, "\n"))
		if again := Play(strings.Join(l, "\n")); again != all {
			t.Fatalf("seed %d: it tells another thing", seed)
		}
		answers := 0
		for i := 0; i <= len(l); i += 1 + r.Intn(9) {
			part := Play(strings.Join(l[:i], "\n"))
			if !strings.HasPrefix(all, part) {
				t.Fatalf("seed %d: %d lines tell %q", seed, i, part)
			}
			answers = max(answers, strings.Count(part, "\n"))
		}
		if answers < 50 {
			t.Errorf("seed %d: %d answers", seed, answers)
		}
	}
}

// What lines tell is what Run answers to the same ops.
func TestAsRun(t *testing.T) {
	for seed := range int64(30) {
		r := rand.New(rand.NewSource(seed))
		lines := slices.DeleteFunc(someLines(r, 300), func(s string) bool {
			return s == "" || s[0] == '#' || strings.HasPrefix(s, "new") || s == "items" || s == "len" || s == "junk"
		})
		ops := []replay.Op{}
		for _, s := range lines {
			verb, rest, more := strings.Cut(s, " ")
			o, e := parse(verb, rest, more)
			if e != nil {
				t.Fatalf("%s: %v", s, e)
			}
			ops = append(ops, o)
		}
		answers, _ := replay.Run(512, 8, ops)
		want := ""
		for _, a := range answers {
			want += script.Answer(a) + "\n"
		}
		if got := Play(strings.Join(lines, "\n")); got != want {
			t.Fatalf("seed %d: %s, not %s", seed, got, want)
		}
	}
}

func TestNumbersOfOps(t *testing.T) {
	for verb, want := range map[string]int{"begin": 1, "put": 2, "del": 3, "commit": 4, "abort": 5, "get": 6, "search": 7, "nearest": 8, "query": 9, "near": 10, "next": 11, "end": 12, "bulk": 13, "vacuum": 14, "close": 15, "cut": 16, "crash": 17, "tear": 17, "new": 0, "": 0} {
		if got := kind(verb); got != want {
			t.Errorf("%s is %d", verb, got)
		}
	}
	if api.MaxLines != 10000 {
		t.Error(api.MaxLines)
	}
}
