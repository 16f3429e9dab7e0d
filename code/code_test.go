package code

import (
	"strings"
	"testing"
)

// The longer ones are the samples of RFC 3492, which writes the same codes, with small letters.
var known = []struct{ letters, text string }{
	{"\u0080", "a"},
	{"\u0081", "ba"},
	{"\u0080\u0080", "aa"},
	{"\u0082\u0081\u0080", "abc"},
	{"ü", "tda"},
	{"üü", "tdaa"},
	{"äü", "4ca2c"},
	{"üä", "4ca1c"},
	{"bücher", "bcher-kva"},
	{"faß", "fa-hia"},
	{"ßa", "a-pfa"},
	{"-ü", "--eha"},
	{"ü-", "--dha"},
	{"--ü", "---yka"},
	{"a-ü-b", "a--b-1ra"},
	{"xn--ü", "xn---3ra"},
	{"aäböcüd", "abcd-loa3ivb"},
	{"中ü\U0001f600", "tda5360b7y5s"},
	{"\ud7ff", "hb9b"},
	{"\ue000", "0y0c"},
	{"\ufffd", "zn7c"},
	{"\U00010000", "2n7c"},
	{"\U0010ffff", "dn32g"},
	{"a\U0010ffff", "a-h023p"},
	{"\U0010ffff\U0010ffff", "dn32ga"},
	{"ليهمابتكلموشعربي؟", "egbpdaj6bu4bxfgehfvwxn"},
	{"他们为什么不说中文", "ihqwcrb4cv8a8dqg056pqjye"},
	{"почемужеонинеговорятпорусски", "b1abfaaepdrnnbgefbadotcwatmq2g4l"},
	{"3年b組金八先生", "3b-ww4c5e180e575a65lsy2b"},
	{"hello-another-way-それぞれの場所", "hello-another-way--fc4qua05auwb3674vfr0b"},
	{"ひとつ屋根の下2", "2-u9tlzr9756bt3uc0v"},
	{"majiでkoiする5秒前", "majikoi5-783gue6qz075azm5e"},
	{"パフィーdeルンバ", "de-jg4avhby1noc0d"},
	{"そのスピードで", "d9juau41awczczp"},
}

func TestOf(t *testing.T) {
	for _, k := range known {
		if got := Of(k.letters); got != k.text {
			t.Errorf("Of(%q) = %q, want %q", k.letters, got, k.text)
		}
	}
}

func TestOfWithoutForeignLetters(t *testing.T) {
	for letters, want := range map[string]string{"": "", "b": "b-", "a-b": "a-b-"} {
		if got := Of(letters); got != want {
			t.Errorf("Of(%q) = %q, want %q", letters, got, want)
		}
	}
}

func TestLetters(t *testing.T) {
	for _, k := range known {
		if got, found := Letters(k.text); got != k.letters || !found {
			t.Errorf("Letters(%q) = %q, %v, want %q", k.text, got, found, k.letters)
		}
	}
}

func TestLettersOfNoCode(t *testing.T) {
	for _, text := range []string{
		"",                      // no letters
		"-", "b-", "a-b-", "--", // no foreign ones
		"b", "bb", "t", "td", // a number that does not end
		"-tda", "-a", // a divider behind no plain letters
		"tda_", "bcher-k\u00fca", "bcher-kvA", "a-\x80", // other signs as digits
		"ib9b", "zy0c", "a-qc4g", "tda2021i", // code points from 55296 to 57343
		"en32g", "dn32gb", "a-i023p", // code points above 1114111
		"99999999999", strings.Repeat("9", 5000), strings.Repeat("z", 5000), // numbers above all
	} {
		if got, found := Letters(text); got != "" || found {
			t.Errorf("Letters(%q) = %q, %v, want none", text, got, found)
		}
	}
}

// TestAllShortTexts: whatever is read is written so again.
func TestAllShortTexts(t *testing.T) {
	const signs = "abcdefghijklmnopqrstuvwxyz0123456789-"
	texts := []string{""}
	for range 3 {
		var longer []string
		for _, text := range texts {
			for _, sign := range signs {
				longer = append(longer, text+string(sign))
			}
		}
		for _, text := range longer {
			if letters, found := Letters(text); found && Of(letters) != text {
				t.Fatalf("Letters(%q) = %q, whose code is %q", text, letters, Of(letters))
			}
		}
		texts = longer
	}
}

// TestAllShortLetters: whatever is written is read so again, and no two are written alike.
func TestAllShortLetters(t *testing.T) {
	signs := []string{"a", "-", "9", "\u0080", "\u0081", "ü", "中", "\U0010ffff"}
	byText := map[string]string{}
	all := []string{""}
	for range 4 {
		var longer []string
		for _, letters := range all {
			for _, sign := range signs {
				longer = append(longer, letters+sign)
			}
		}
		for _, letters := range longer {
			text := Of(letters)
			if other, there := byText[text]; there {
				t.Fatalf("Of(%q) and Of(%q) are both %q", letters, other, text)
			}
			byText[text] = letters
			foreign := strings.ContainsFunc(letters, IsForeign)
			if got, found := Letters(text); found != foreign || found && got != letters {
				t.Fatalf("Letters(%q) = %q, %v, want %q", text, got, found, letters)
			}
		}
		all = longer
	}
}

func TestIsPlainAndIsForeign(t *testing.T) {
	for letter := range rune(300) {
		plain := strings.ContainsRune("abcdefghijklmnopqrstuvwxyz0123456789-", letter)
		if IsPlain(letter) != plain {
			t.Errorf("IsPlain(%q) = %v", letter, !plain)
		}
		if IsForeign(letter) != (letter >= 128) {
			t.Errorf("IsForeign(%q) = %v", letter, letter < 128)
		}
	}
}
