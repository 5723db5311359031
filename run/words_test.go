package run_test

import (
	"fmt"
	"strings"
	"testing"

	"herald/api"
)

// TestNumbers: P18.1, a number is 0, or has no 0 in front, is at most MaxNumber, with or without a minus, and ends where no digit follows.
func TestNumbers(t *testing.T) {
	for text, want := range map[string]int{
		"0": 0, "1": 1, "-1": -1, "9": 9, "10": 10, "-10": -10, "100": 100, "90": 90, "-9": -9,
		"2147483647": most, "-2147483647": -most, "2147483646": most - 1, "999999999": 999999999, "1000000000": 1000000000,
	} {
		reads(t, script("tick "+text), stepOf(api.StepTick, want))
		reads(t, script("tick\t"+text+"# "), stepOf(api.StepTick, want))
		reads(t, script("spoil "+text+" 1 "+text), stepOf(api.StepSpoil, want, 1, want))
		reads(t, script(`do 1 drop /a `+text), does(1, api.Op{Kind: api.OpDrop, Place: "/a", Version: want}))
	}
	for _, text := range []string{
		"00", "01", "-0", "-00", "-01", "007", "00000000000000000000", "-", "--1", "- 1", "-\t1", "+1", "+0", "1.0", "1,0", "1_0", "1e1", "0x1", "0X1", "1x", "1X", "0a", "1a", "1A", "-1a", "-1Z", "1 0x",
		"2147483648", "-2147483648", "2147483650", "3000000000", "4294967296", "4294967297", "9999999999", "10000000000", "18446744073709551616", "18446744073709551617", "9223372036854775807", "9223372036854775808", "-9223372036854775808", strings.Repeat("1", 400), "-" + strings.Repeat("9", 30000),
		"²", "１", "٣", "1\x80", "1@", "1'", "1:", "1(",
	} {
		refuses(t, script("tick "+text), api.ErrScript, 2)
		refuses(t, script("tick 1", "", "do 1 drop /a "+text), api.ErrScript, 4)
		refuses(t, strings.Replace(head, "ring 16", "ring "+text, 1), api.ErrScript, 1)
	}
}

// TestNames: P18.1, a name is the longest run of small letters, and no digit stands directly behind it.
func TestNames(t *testing.T) {
	for _, line := range []string{"Tick 1", "TICK 1", "tICK 1", "tic 1", "ticks 1", "tick1", "tick0 1", "tick1 1", "ti ck 1", "tick_1", "tick.1", "tick: 1", "tíck 1", "\x80tick 1", "tick\x80 1", "t1ck 1", "tick\x00 1", "ticktick 1", `"tick" 1`, "/tick 1", "-tick 1", "leave 1", "begins 1", "deliver1", "worl", "nodes 1", "get /a", "make /a \"\"", "x"} {
		refuses(t, script(line), api.ErrScript, 2)
	}
	for _, line := range []string{"do 1 make /a \"\" briefcounted", "do 1 make /a \"\" brief_counted", "do 1 make /a \"\" Brief", "do 1 make /a \"\" brief1", "do 1 make /a \"\" brief counted1", "watch 1 /a nodekids", "watch 1 /a node1", "watch 1 /a Node", "watch 1 /a \"node\"", "do 1 gets /a", "do 1 Get /a", "do 1 get1 /a"} {
		refuses(t, script(line), api.ErrScript, 2)
	}
	for _, text := range []string{"World", "worlds", "world1", "word", "\"world\"", "/world", "w"} {
		refuses(t, strings.Replace(head, "world", text, 1), api.ErrScript, 1)
	}
	for _, text := range []string{"node", "Nodes", "nodess", "nodes1", "\"nodes\"", "clients", "2"} {
		refuses(t, strings.Replace(head, "nodes", text, 1), api.ErrScript, 1)
	}
}

// TestBarePlaces: P18.1, a bare place is a slash and the longest run of what may stand in one.
func TestBarePlaces(t *testing.T) {
	const allowed = "abcdefghijklmnopqrstuvwxyzABCDEFGHIJKLMNOPQRSTUVWXYZ0123456789/-_."
	for _, place := range []string{"/", "//", "/a", "/a/", "/0", "/-", "/-1", "/_", "/.", "/..", "/a-1", "/kids", "/a/subtree", "/A", "/" + allowed, "/" + strings.Repeat("p", api.MaxRaw-1), strings.Repeat("/", api.MaxRaw)} {
		reads(t, script("watch 1 "+place+" kids"), watches(1, place, api.WatchKids))
		reads(t, script("watch 1"+place+" kids"), watches(1, place, api.WatchKids))
		reads(t, script("do 1 get"+place+";get "+place+"#"), does(1, gets(place), gets(place)))
	}
	for _, place := range []string{"a", "", ".", "-/a", "_/a", "./a", "1/a", "/a@", "/a:", "/a b", "/a\\", "/a'", "/ä", "/a\x80", "/a\xff", "/a\x7f", "/a\x00", "/a,", "/a+", "/" + strings.Repeat("p", api.MaxRaw), strings.Repeat("/", 20000)} {
		refuses(t, script("watch 1 "+place+" kids"), api.ErrScript, 2)
		refuses(t, script("do 1 get "+place), api.ErrScript, 2)
	}
	for c := range 256 {
		place := "/a" + string([]byte{byte(c)}) + "b"
		text := script("watch 1 " + place + " kids")
		if strings.IndexByte(allowed, byte(c)) >= 0 {
			reads(t, text, watches(1, place, api.WatchKids))
		} else {
			refuses(t, text, api.ErrScript, 2)
		}
	}
}

// quotedPlace is the script in which that quoted word is a place, and what it reads if that stands for such a text.
func quotedPlace(quoted, text string) (string, api.Step) {
	return script("do 1 get " + quoted), does(1, gets(text))
}

// TestQuotedWords: P18.1, every piece of a quoted word.
func TestQuotedWords(t *testing.T) {
	for quoted, text := range map[string]string{
		`""`: "", `"a"`: "a", `" "`: " ", `"/a"`: "/a", `"\""`: `"`, `"\\"`: `\`, `"\n"`: "\n", `"\\n"`: `\n`, `"\\\""`: `\"`, `"\\\\"`: `\\`, `"a\nb"`: "a\nb",
		`"\x00"`: "\x00", `"\x0a"`: "\n", `"\x0A"`: "\n", `"\xff"`: "\xff", `"\xFF"`: "\xff", `"\xfF"`: "\xff", `"\xAf"`: "\xaf", `"\x22"`: `"`, `"\x5c"`: `\`, `"\x411"`: "A1", `"\x41\x42"`: "AB", `"\x90g"`: "\x90g",
		`"#"`: "#", `"a # b"`: "a # b", `";"`: ";", `"'"`: "'", `"~"`: "~", `"do 1 get /a"`: "do 1 get /a", `"xn"`: "xn", "\"\x80\xff\"": "\x80\xff", `"äé"`: "äé", `"日本"`: "日本", "\"\xc3\"": "\xc3",
		`"` + strings.Repeat("p", api.MaxRaw) + `"`: strings.Repeat("p", api.MaxRaw), `"` + strings.Repeat(`\x00`, api.MaxRaw) + `"`: strings.Repeat("\x00", api.MaxRaw), `"` + strings.Repeat(`\\`, api.MaxRaw) + `"`: strings.Repeat(`\`, api.MaxRaw),
	} {
		line, step := quotedPlace(quoted, text)
		reads(t, line, step)
		reads(t, line+" # more", step)
		reads(t, script(`do 1 make"/a"`+quoted+`;set"/b"`+quoted+"7"), does(1, api.Op{Kind: api.OpMake, Place: "/a", Data: text}, api.Op{Kind: api.OpSet, Place: "/b", Data: text, Version: 7}))
		reads(t, script("watch 1"+quoted+"node"), watches(1, text, api.WatchNode))
	}
	for _, quoted := range []string{
		`"`, `"a`, `a"`, `"""`, `"\"`, `"\`, `"\\\"`, `"\x`, `"\x"`, `"\x4`, `"\x4"`, `"\xg0"`, `"\x0g"`, `"\x 0"`, `"\x-1"`, `"\x+1"`, `"\x0x"`, `"\x_1"`, `"\X41"`, `"\N"`, `"\q"`, `"\t"`, `"\r"`, `"\0"`, `"\a"`, `"\'"`, `"\ "`, `"\u0041"`, `"\101"`, `"\/"`,
		"\"\t\"", "\"\r\"", "\"a\r", "\"\x00\"", "\"\x1f\"", "\"\x7f\"", "'a'", "`a`", "\"\\\x80\"", "\"\\x\x804\"", "\"\\x4\xb2\"",
		`"` + strings.Repeat("p", api.MaxRaw+1) + `"`, `"` + strings.Repeat(`\x00`, api.MaxRaw+1) + `"`, `"` + strings.Repeat("p", 30000) + `"`,
	} {
		line, _ := quotedPlace(quoted, "")
		refuses(t, line, api.ErrScript, 2)
		refuses(t, script("do 1 make /a "+quoted), api.ErrScript, 2)
		refuses(t, script(`do 1 set /a `+quoted+" 1"), api.ErrScript, 2)
	}
	refuses(t, script("do 1 get \"a", "b\""), api.ErrScript, 2)
}

// TestQuotedBytes: P18.1, every byte in a quoted word, as it is, behind a `\`, and by its two hexadecimal digits, small and large.
func TestQuotedBytes(t *testing.T) {
	for c := range 256 {
		text := string([]byte{byte(c)})
		line, step := quotedPlace(`"a`+text+`b"`, "a"+text+"b")
		if c >= 32 && c != 127 && text != `"` && text != `\` {
			reads(t, line, step)
		} else {
			refuses(t, line, api.ErrScript, 2)
		}
		line, step = quotedPlace(`"a\`+text+`b"`, "a"+text+"b")
		switch text {
		case `"`, `\`:
			reads(t, line, step)
		case "n":
			line, step = quotedPlace(`"a\nb"`, "a\nb")
			reads(t, line, step)
		default:
			refuses(t, line, api.ErrScript, 2)
		}
		for _, form := range []string{`"%c\x%02x."`, `"%c\x%02X."`} {
			line, step = quotedPlace(fmt.Sprintf(form, 'a', c), "a"+text+".")
			reads(t, line, step)
		}
		for _, form := range []string{`"\x%sb"`, `"\xb%s"`} {
			isDigit := c < 128 && strings.IndexByte("0123456789abcdefABCDEF", byte(c)) >= 0
			line, _ = quotedPlace(fmt.Sprintf(form, text), "")
			if !isDigit {
				refuses(t, line, api.ErrScript, 2)
			}
		}
	}
}

// TestCutShort: P18.1, a quoted word that ends anywhere is none, also where a comment or another line stands behind it.
func TestCutShort(t *testing.T) {
	const whole = `"a\"\\\n\x4F\xe9 b"`
	for size := 1; size < len(whole); size++ {
		for _, end := range []string{"", "\n", "\r\n", " # \n", "\ntick 1"} {
			refuses(t, script("do 1 get "+whole[:size]+end), api.ErrScript, 2)
			refuses(t, script("do 1 make /a "+whole[:size]+end), api.ErrScript, 2)
		}
	}
	line, step := quotedPlace(whole, "a\"\\\nO\xe9 b")
	reads(t, line, step)
}

// TestBlanks: P18.1, words stand with any blanks between them, or with none where they are told apart without.
func TestBlanks(t *testing.T) {
	op := api.Op{Kind: api.OpMake, Place: "/a", Data: "x", Flags: 3}
	set := api.Op{Kind: api.OpSet, Place: "b", Data: "", Version: -1}
	for _, line := range []string{`do 1 make /a "x" brief counted ; set "b" "" -1`, "\t do\r1\t\tmake \r /a  \"x\"\tbrief\rcounted;set\t\"b\"\r\"\"\t-1 \t\r", `do 1 make/a"x"brief counted;set"b"""-1`} {
		reads(t, script(line), does(1, op, set))
	}
	reads(t, script("tick-1"), stepOf(api.StepTick, -1))
	reads(t, script("spoil-1-2-3"), stepOf(api.StepSpoil, -1, -2, -3))
	reads(t, script("spoil 1-2 3"), stepOf(api.StepSpoil, 1, -2, 3))
	reads(t, script("within 0-1"), stepOf(api.StepWithin, 0, -1))
	reads(t, script(`watch-1"a"kids`), watches(-1, "a", api.WatchKids))
	reads(t, script(`watch 1/a kids`), watches(1, "/a", api.WatchKids))
	reads(t, script(`do 1 drop"/a"-7;get/b`), does(1, api.Op{Kind: api.OpDrop, Place: "/a", Version: -7}, gets("/b")))
	for _, line := range []string{"spoil 1 2-3 4", "spoil 12 3", "tick1", "watch1 /a kids", "do 1 drop /a-7", "do 1 drop /a7", "do 1get /a", `do 1make/a"x"brief`, "do-1", "watch 1 /akids", "watch 1kids", "do 1 get /a ;; get /b", "; tick 1", "tick ; 1", "tick 1 ;", ";", "do ; 1 get /a", "do 1 ; get /a", "do 1 get ; /a", "do 1 get /a ; ;", "do 1 ;", "do 1;get /a"} {
		refuses(t, script(line), api.ErrScript, 2)
	}
	for c := range 256 { // what may stand between two words, as a blank, and ahead of the first and behind the last one
		blank := string([]byte{byte(c)})
		text := script(blank + "spoil 1" + blank + "2" + blank + "3" + blank)
		if strings.Contains(" \t\r", blank) {
			reads(t, text, stepOf(api.StepSpoil, 1, 2, 3))
			continue
		}
		at := 2
		if c == '\n' {
			at = 3 // the line ahead of it is empty
		}
		if blank == "#" {
			reads(t, text)
		} else {
			refuses(t, text, api.ErrScript, at)
		}
	}
}

// TestComments: P18.1, a `#` outside of a quoted word begins a comment, of any bytes, to the line's end.
func TestComments(t *testing.T) {
	var all []byte
	for c := range 256 {
		if c != '\n' {
			all = append(all, byte(c))
		}
	}
	tick := stepOf(api.StepTick, 1)
	for _, comment := range []string{"#", "# x", "##", "#\"", "# \"a", "#\r", "#tick 2", "#;" + string(all), "# \\"} {
		reads(t, script("tick 1"+comment), tick)
		reads(t, script("tick 1 "+comment, comment, "\t"+comment, "tick 1"), tick, tick)
		reads(t, comment+"\n"+head[:len(head)-1]+comment+"\n"+comment+"\ntick 1", tick)
		reads(t, script("do 1 get /a"+comment, `do 1 get "/a"`+comment), does(1, gets("/a")), does(1, gets("/a")))
		refuses(t, script("tick"+comment), api.ErrScript, 2)
		refuses(t, script("tick "+comment+" 1", "1"), api.ErrScript, 2)
		refuses(t, script(comment, "do 1 get /a ; "+comment), api.ErrScript, 3)
		refuses(t, comment, api.ErrScript, 0)
		refuses(t, comment+"\n\n"+comment+"\n", api.ErrScript, 0)
	}
	reads(t, script(`do 1 get "#" # "`, "tick 1"), does(1, gets("#")), tick)
	reads(t, script(`do 1 make "#\"#" "a#b"#"`), does(1, api.Op{Kind: api.OpMake, Place: `#"#`, Data: "a#b"}))
}
