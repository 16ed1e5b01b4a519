package markup_test

import (
	"fmt"
	"slices"
	"strings"
	"testing"

	"knapsack/api"
	"knapsack/entity"
	"knapsack/markup"
	"knapsack/text"
)

// unknown is U+FFFD.
const unknown = "\xEF\xBF\xBD"

// start returns a Start with names and values of attributes in turn.
func start(name string, attrs ...string) markup.Token {
	token := markup.Token{Kind: markup.Start, Name: name}
	for pair := range slices.Chunk(attrs, 2) {
		token.Attrs = append(token.Attrs, api.Attr{Name: pair[0], Value: pair[1]})
	}
	return token
}

// closed returns a Start that is Closed.
func closed(name string, attrs ...string) markup.Token {
	token := start(name, attrs...)
	token.Closed = true
	return token
}

func end(name string) markup.Token          { return markup.Token{Kind: markup.End, Name: name} }
func words(s string) markup.Token           { return markup.Token{Kind: markup.Text, Text: s} }
func comment(s string) markup.Token         { return markup.Token{Kind: markup.Comment, Text: s} }
func doctype(s string) markup.Token         { return markup.Token{Kind: markup.Doctype, Text: s} }
func list(t ...markup.Token) []markup.Token { return t }

func same(a, b markup.Token) bool {
	return a.Kind == b.Kind && a.Name == b.Name && a.Closed == b.Closed && a.Text == b.Text && slices.Equal(a.Attrs, b.Attrs)
}

func show(tokens []markup.Token) string {
	var b strings.Builder
	for _, token := range tokens {
		fmt.Fprintf(&b, "\n\t%.300q", fmt.Sprintf("%+v", token))
	}
	return b.String()
}

func showState(z markup.Tokenizer) string {
	return fmt.Sprintf("%.300q", fmt.Sprintf("%+v", z))
}

// reads checks the tokens of a whole document.
func reads(t *testing.T, s string, want ...markup.Token) {
	t.Helper()
	if got := markup.Tokens(s); !slices.EqualFunc(got, want, same) {
		t.Errorf("Tokens(%.200q) are%s\nand not%s", s, show(got), show(want))
	}
}

// random returns a function whose results are those of a fixed sequence, each reduced to less than its argument.
func random() func(below int) int {
	state := uint64(1)
	return func(below int) int {
		state = state*6364136223846793005 + 1442695040888963407
		return int(state>>33) % below
	}
}

// randomDocument returns up to most parts, among them many beginnings and ends of constructs.
func randomDocument(next func(below int) int, most int) string {
	parts := []string{
		"<", "<", ">", ">", "/", "/", "=", "=", "\"", "'", "!", "?", "-", "--", "-->", "<!--", "<!-", "<!", "<?", "</", "</>", "/>",
		"a", "B", "x1", "é", "€", " ", "\n", "\t", "\f", "\r", "\r\n", "&", "&lt;", "&#", "&#62;", ";", "amp", "\x00",
		"<a", "</a", "<P>", "</P>", " b=c", " B='", " b=\"", "<!DOCTYPE", "<!doctype html>", "doc", "type",
		"<script>", "<STYLE x>", "</script", "</SCRIPT>", "</style", "<title>", "<TextArea>", "</title>", "</textarea", "script", "title",
		"\xFF", "\x80", "\xE2", "\xE2\x82", "\xAC", "\xF0\x9F",
	}
	var b strings.Builder
	for range next(most + 1) {
		b.WriteString(parts[next(len(parts))])
	}
	return b.String()
}

// P6.1: the examples of the document.
func TestExamples(t *testing.T) {
	reads(t, "<p class=a ID='b'>x &lt; y<br/></P>", start("p", "class", "a", "id", "b"), words("x < y"), closed("br"), end("p"))
	reads(t, "a<b<c>", words("a"), start("b<c"))
	reads(t, "<script>if (a<b) x</script>", start("script"), words("if (a<b) x"), end("script"))
	reads(t, "1 < 2 <!--x", words("1 < 2 "), comment("x"))
	reads(t, "</><a b")
}

// P6.1: the kinds have the numbers of the document.
func TestKinds(t *testing.T) {
	for i, kind := range []int{markup.Start, markup.End, markup.Text, markup.Comment, markup.Doctype} {
		if kind != i+1 {
			t.Errorf("the kind %d has the number %d", i+1, kind)
		}
	}
}

// P6.1: the lists of names contain what the document lists, and nothing else.
func TestListsOfNames(t *testing.T) {
	lists := []struct {
		name  string
		has   func(name string) bool
		names []string
	}{
		{"IsVoid", markup.IsVoid, strings.Fields("area base br col hr img input link meta")},
		{"IsRaw", markup.IsRaw, strings.Fields("script style")},
		{"IsPlain", markup.IsPlain, strings.Fields("title textarea")},
	}
	others := []string{"", " ", "a", "p", "embed", "source", "track", "wbr", "param", "keygen", "command", "frame", "text", "xmp", "noscript", "option", "\x00", "\xFF"}
	for _, l := range lists {
		for _, name := range l.names {
			others = append(others, name, name[1:], name[:len(name)-1], name+"s", name+" ", " "+name, strings.ToUpper(name), strings.ToUpper(name[:1])+name[1:], strings.ReplaceAll(name, "s", "\u017F"))
		}
	}
	for _, l := range lists {
		for _, name := range others {
			if want := slices.Contains(l.names, name); l.has(name) != want {
				t.Errorf("%s(%q) is %v", l.name, name, !want)
			}
		}
	}
}

// P6.1, rule 1: a comment reaches up to the first --> after its four characters.
func TestComments(t *testing.T) {
	reads(t, "<!---->", comment(""))
	reads(t, "<!-- a -->b", comment(" a "), words("b"))
	reads(t, "<!--a--b->c-->", comment("a--b->c"))
	reads(t, "<!--->-->", comment("->"))
	reads(t, "<!-->-->", comment(">"))
	reads(t, "<!----->x", comment("-"), words("x"))
	reads(t, "<!--<!--a-->-->", comment("<!--a"), words("-->"))
	reads(t, "<!--a--!>b-->", comment("a--!>b"))
	reads(t, "<!--<p>&lt;</p>-->", comment("<p>&lt;</p>"))
	reads(t, "<!--a-->-->", comment("a"), words("-->"))
	reads(t, "<!- -a-->", comment("- -a--"))
	reads(t, "<!->a", comment("-"), words("a"))
}

// P6.1, rule 2: a Doctype in any case, with the text between doctype and the >, without white space at its ends.
func TestDoctypes(t *testing.T) {
	reads(t, "<!doctype html>a", doctype("html"), words("a"))
	reads(t, "<!DOCTYPE>", doctype(""))
	reads(t, "<!DocType \t\n\f\r >", doctype(""))
	reads(t, "<!doctypehtml>", doctype("html"))
	reads(t, "<!doctype \t\f\n HTML  \"a&lt;<b\" \r\n>c", doctype("HTML  \"a&lt;<b\""), words("c"))
	reads(t, "<!doctype\u00A0>", doctype("\u00A0"))
	reads(t, "<!doctyp>", comment("doctyp"))
	reads(t, "<!doctyp e>", comment("doctyp e"))
	reads(t, "<! doctype a>", comment(" doctype a"))
	reads(t, "<!>doctype>", comment(""), words("doctype>"))
	reads(t, "</doctype a>", end("doctype"))
	reads(t, "<?doctype a>", comment("doctype a"))
	reads(t, "<doctype a>", start("doctype", "a", ""))
}

// P6.1, rule 3: an End has a name only, and ends at the first >.
func TestEnds(t *testing.T) {
	reads(t, "</a>", end("a"))
	reads(t, "</Div\u00C9>", end("div\u00C9"))
	reads(t, "</a/>", end("a"))
	reads(t, "</a/b>", end("a"))
	for _, space := range []string{"\t", "\n", "\f", "\r", " ", "\r\n"} {
		reads(t, "</a"+space+"b='c'>d", end("a"), words("d"))
	}
	reads(t, "</a b='>'>", end("a"), words("'>"))
	reads(t, "</a<b>", end("a<b"))
	reads(t, "</a=\"x\">", end("a=\"x\""))
	reads(t, "</a&lt;>", end("a&lt;"))
	reads(t, "</br>", end("br"))
	reads(t, "</h1></A-b:C>", end("h1"), end("a-b:c"))
	reads(t, "</a\u00A0b>", end("a\u00A0b"))
	reads(t, "</a\vb>", end("a\vb"))
}

// P6.1, rules 4 and 5: nothing for </>, and a Comment for what else begins with </, <! or <?.
func TestOddConstructs(t *testing.T) {
	reads(t, "</>")
	reads(t, "a</>b", words("a"), words("b"))
	reads(t, "</></></>a</>", words("a"))
	reads(t, "</ a>b", comment(" a"), words("b"))
	reads(t, "</ >", comment(" "))
	reads(t, "</1>", comment("1"))
	reads(t, "<//>", comment("/"))
	reads(t, "</<a>", comment("<a"))
	reads(t, "</\u00E9>", comment("\u00E9"))
	reads(t, "<!>", comment(""))
	reads(t, "<!a>", comment("a"))
	reads(t, "<!\"> \">", comment("\""), words(" \">"))
	reads(t, "<![CDATA[a>b]]>", comment("[CDATA[a"), words("b]]>"))
	reads(t, "<?>", comment(""))
	reads(t, "<?xml a=\"b\"?>c", comment("xml a=\"b\"?"), words("c"))
	reads(t, "<? &lt; >", comment(" &lt; "))
	reads(t, "<?--a>-->", comment("--a"), words("-->"))
}

// P6.1, rule 7: a text reaches up to the next construct, and its references are decoded.
func TestTexts(t *testing.T) {
	reads(t, "")
	reads(t, "a", words("a"))
	reads(t, " ", words(" "))
	reads(t, ">", words(">"))
	reads(t, "a>b/c=\"d\"", words("a>b/c=\"d\""))
	reads(t, "a<1<<2< <=<>\n<\x00<-", words("a<1<<2< <=<>\n<\x00<-"))
	reads(t, "<<a>", words("<"), start("a"))
	reads(t, "<<<</a>", words("<<<"), end("a"))
	reads(t, "<\u00E9>", words("<\u00E9>"))
	reads(t, "< a>", words("< a>"))
	reads(t, "<>", words("<>"))
	reads(t, "-->", words("-->"))
	reads(t, "a<!b>c<?d>e", words("a"), comment("b"), words("c"), comment("d"), words("e"))
	reads(t, "&lt;p&gt;&#60;a&#62;&copy;", words("<p><a>\u00A9"))
	reads(t, "&amp;lt;", words("&lt;"))
	reads(t, "&nosuch;&", words("&nosuch;&"))
	reads(t, "&lt<b>;", words("<"), start("b"), words(";"))
	reads(t, "&l<b>t;", words("&l"), start("b"), words("t;"))
	reads(t, "&#13;&#0;", words("\r"+unknown))
	reads(t, "&lt;/title>", words("</title>"))
}

// P6.1: a letter is A to Z or a to z, and a construct begins before no other character than these and / ! ?.
func TestEachCharacterAfterLess(t *testing.T) {
	for c := range 128 {
		char := string(rune(c))
		s := "a<" + char + "b>c"
		switch {
		case char == "\r":
			reads(t, s, words("a<\nb>c"))
		case char == "/":
			reads(t, s, words("a"), end("b"), words("c"))
		case char == "!" || char == "?":
			reads(t, s, words("a"), comment("b"), words("c"))
		case char == "<":
			reads(t, s, words("a<"), start("b"), words("c"))
		case c >= 'A' && c <= 'Z' || c >= 'a' && c <= 'z':
			reads(t, s, words("a"), start(strings.ToLower(char)+"b"), words("c"))
			reads(t, "</"+char+">", end(strings.ToLower(char)))
		default:
			reads(t, s, words(s))
			if char != ">" {
				reads(t, "</"+char+">", comment(char))
			}
		}
	}
}

// P6.1: the name of a tag reaches up to white space, / or >, and Closed looks at the last character before the >.
func TestTags(t *testing.T) {
	reads(t, "<a>", start("a"))
	reads(t, "<A1-B_c:\u00C9&lt;=\"'>", start("a1-b_c:\u00C9&lt;=\"'"))
	reads(t, "<a/>", closed("a"))
	reads(t, "<a//>", closed("a"))
	reads(t, "<a />", closed("a"))
	reads(t, "<a / >", start("a"))
	reads(t, "<a/ / />", closed("a"))
	reads(t, "<a/\n>", start("a"))
	reads(t, "<a  \t\n\f\r >", start("a"))
	reads(t, "<a/b/>", closed("a", "b", ""))
	reads(t, "<a/b>", start("a", "b", ""))
	reads(t, "<a b/>", closed("a", "b", ""))
	reads(t, "<a b=/>", start("a", "b", "/"))
	reads(t, "<a b=c/>", start("a", "b", "c/"))
	reads(t, "<a b=c />", closed("a", "b", "c"))
	reads(t, "<a b='c'/>", closed("a", "b", "c"))
	reads(t, "<a b='/'>", start("a", "b", "/"))
	reads(t, "<a b='c/'>", start("a", "b", "c/"))
	reads(t, "<a b =/>", start("a", "b", "/"))
	reads(t, "<a\u00A0b>", start("a\u00A0b"))
	reads(t, "<a\vb>", start("a\vb"))
	reads(t, "<a>>", start("a"), words(">"))
}

// P6.1: the name of an attribute reaches up to white space, /, > or =; a = as its first character belongs to it.
func TestNamesOfAttributes(t *testing.T) {
	reads(t, "<a b c>", start("a", "b", "", "c", ""))
	reads(t, "<a b/c>", start("a", "b", "", "c", ""))
	reads(t, "<a B\u00C9\"'<&lt;=1>", start("a", "b\u00C9\"'<&lt;", "1"))
	reads(t, "<a =>", start("a", "=", ""))
	reads(t, "<a =b>", start("a", "=b", ""))
	reads(t, "<a =b=c>", start("a", "=b", "c"))
	reads(t, "<a ==>", start("a", "=", ""))
	reads(t, "<a ==b>", start("a", "=", "b"))
	reads(t, "<a ===b>", start("a", "=", "=b"))
	reads(t, "<a = b>", start("a", "=", "", "b", ""))
	reads(t, "<a/=b>", start("a", "=b", ""))
	reads(t, "<a b/=c>", start("a", "b", "", "=c", ""))
	reads(t, "<a b / = c>", start("a", "b", "", "=", "", "c", ""))
	reads(t, "<a 'b'>", start("a", "'b'", ""))
	reads(t, "<a \"b>\">", start("a", "\"b", ""), words("\">"))
	reads(t, "<a <b>", start("a", "<b", ""))
	reads(t, "<a 1 \x00>", start("a", "1", "", "\x00", ""))
	reads(t, "<a b\u00A0c\vd>", start("a", "b\u00A0c\vd", ""))
}

// P6.1: the value of an attribute is what stands between quotes, or reaches up to white space or >.
func TestValuesOfAttributes(t *testing.T) {
	for _, space := range []string{"", " ", "\t", "\n", "\f", "\r", "\r\n \t"} {
		reads(t, "<a b"+space+"="+space+"c"+space+">", start("a", "b", "c"))
		reads(t, "<a b"+space+"="+space+"'c'"+space+">", start("a", "b", "c"))
		reads(t, "<a b"+space+"="+space+"\"c\""+space+"d>", start("a", "b", "c", "d", ""))
		reads(t, "<a b"+space+"="+space+">", start("a", "b", ""))
	}
	reads(t, "<a b=''>", start("a", "b", ""))
	reads(t, "<a b=\"\"c=''/>", closed("a", "b", "", "c", ""))
	reads(t, "<a b='\">'c=\"'>\">", start("a", "b", "\">", "c", "'>"))
	reads(t, "<a b='x'y'z>", start("a", "b", "x", "y'z", ""))
	reads(t, "<a b='x'=y>", start("a", "b", "x", "=y", ""))
	reads(t, "<a b=' c\n/d '>", start("a", "b", " c\n/d "))
	reads(t, "<a b=c\"d'e=f/g<h c>", start("a", "b", "c\"d'e=f/g<h", "c", ""))
	reads(t, "<a b=/c>", start("a", "b", "/c"))
	reads(t, "<a b==c>", start("a", "b", "=c"))
	reads(t, "<a b= c=d>", start("a", "b", "c=d"))
	reads(t, "<a b=C>", start("a", "b", "C"))
	reads(t, "<a b='<c>'>", start("a", "b", "<c>"))
	reads(t, "<a b=\u00A0c\vd>", start("a", "b", "\u00A0c\vd"))
}

// P6.1: references are decoded in values, but not in names.
func TestReferencesInTags(t *testing.T) {
	reads(t, "<a b=&lt;&#62;>", start("a", "b", "<>"))
	reads(t, "<a b='&quot;&apos;'>", start("a", "b", "\"'"))
	reads(t, "<a b=\"&amp;lt;\">", start("a", "b", "&lt;"))
	reads(t, "<a b='?c&lt=1&ltx&lt'>", start("a", "b", "?c&lt=1&ltx<"))
	reads(t, "<a b=&#32;c>", start("a", "b", " c"))
	reads(t, "<a b=&quot;c>", start("a", "b", "\"c"))
	reads(t, "<a &lt;=&copy>", start("a", "&lt;", "&copy"))
	reads(t, "<a&lt;>", start("a&lt;"))
	reads(t, "<a b='&#13;\r'>", start("a", "b", "\r\n"))
}

// P6.1: an attribute with the name of an earlier one is dropped.
func TestAttributesOfOneName(t *testing.T) {
	reads(t, "<a b=1 b=2>", start("a", "b", "1"))
	reads(t, "<a b=1 B=2 c b='3' C>", start("a", "b", "1", "c", ""))
	reads(t, "<a b B=2>", start("a", "b", ""))
	reads(t, "<a \u00E9=1 \u00C9=2>", start("a", "\u00E9", "1", "\u00C9", "2"))
	reads(t, "<a =/=/==1>", start("a", "=", ""))
	reads(t, "<a = = ==1>", start("a", "=", "==1"))
	reads(t, "<a b=1><a b=2>", start("a", "b", "1"), start("a", "b", "2"))
}

// P6.1: an attribute after the first 64 is dropped.
func TestManyAttributes(t *testing.T) {
	for _, count := range []int{api.MaxAttrs - 1, api.MaxAttrs, api.MaxAttrs + 1, 3 * api.MaxAttrs} {
		s := "<a"
		var attrs []string
		for i := range count {
			name, value := fmt.Sprint("n", i), fmt.Sprint("v", i)
			// What is dropped for its name is none of the first.
			s += " " + name + "=" + value + " n0 N" + fmt.Sprint(i) + "='>'"
			if i < api.MaxAttrs {
				attrs = append(attrs, name, value)
			}
		}
		reads(t, s+"/>b", closed("a", attrs...), words("b"))
	}
}

// P6.1: in a raw element, everything is text up to its end, and no references are decoded.
func TestRawElements(t *testing.T) {
	for _, name := range []string{"script", "style"} {
		reads(t, "<"+name+">a&lt;b<p></p><!--c--></x></></"+name+">&lt;<b>",
			start(name), words("a&lt;b<p></p><!--c--></x></>"), end(name), words("<"), start("b"))
	}
	for _, name := range []string{"title", "textarea"} {
		reads(t, "<"+name+">a&lt;b<p></p><!--c--></x></></"+name+">&lt;<b>",
			start(name), words("a<b<p></p><!--c--></x></>"), end(name), words("<"), start("b"))
	}
	reads(t, "<SCRIPT>a</ScRiPt>b", start("script"), words("a"), end("script"), words("b"))
	reads(t, "<script></script>", start("script"), end("script"))
	reads(t, "<script x=1/>a<b></script>", start("script", "x", "1/"), words("a<b>"), end("script"))
	reads(t, "<script/>a<b></script>", closed("script"), words("a<b>"), end("script"))
	reads(t, "<style><script></style></script>", start("style"), words("<script>"), end("style"), end("script"))
	reads(t, "<title><title></title></title>", start("title"), words("<title>"), end("title"), end("title"))
	reads(t, "<title>&lt;/title></title>", start("title"), words("</title>"), end("title"))
	reads(t, "<title>&lt</title>", start("title"), words("<"), end("title"))
	reads(t, "</script><b></title>", end("script"), start("b"), end("title"))
	reads(t, "<scripts><b></scripts>", start("scripts"), start("b"), end("scripts"))
	reads(t, "<pre><b></pre>", start("pre"), start("b"), end("pre"))
}

// P6.1: the end of a raw element is its name in any case, with white space, / or > after it.
func TestEndsOfRawElements(t *testing.T) {
	for _, after := range []string{">", " >", "\t>", "\n>", "\f>", "\r>", "/>", "/b>", " b='c>"} {
		reads(t, "<style>a</STYLE"+after+"b", start("style"), words("a"), end("style"), words("b"))
	}
	reads(t, "<style>a</style b='>'>", start("style"), words("a"), end("style"), words("'>"))
	for _, other := range []string{
		"</styles>", "</style\x00>", "</style-->", "</style<>", "</style=>", "</ style>", "</styl>", "</styl e>", "</script>", "<style>", "< /style>",
		"</style\u00A0>", "</style\v>", "</\u017Ftyle>", "</\u017Ftyl>", "</", "</>", "<", "<!--", "-->",
	} {
		reads(t, "<style>"+other+"</style>", start("style"), words(other), end("style"))
		reads(t, "<style></"+other+"</style>b", start("style"), words("</"+other), end("style"), words("b"))
	}
	reads(t, "<style><</style>", start("style"), words("<"), end("style"))
	reads(t, "<style></</style>", start("style"), words("</"), end("style"))
	reads(t, "<style></style</style>", start("style"), words("</style"), end("style"))
}

// P6.1: at the end of the document, what lacks its end is a token, or removed.
func TestEndOfDocument(t *testing.T) {
	reads(t, "<", words("<"))
	reads(t, "a<", words("a<"))
	reads(t, "<b><", start("b"), words("<"))
	reads(t, "&lt;<", words("<<"))
	reads(t, "<<", words("<<"))
	reads(t, "&lt", words("<"))
	reads(t, "<!", comment(""))
	reads(t, "<!-", comment("-"))
	reads(t, "<!--", comment(""))
	reads(t, "<!-->", comment(">"))
	reads(t, "<!--->", comment("->"))
	reads(t, "<!--a--", comment("a--"))
	reads(t, "<!--<b>", comment("<b>"))
	reads(t, "</", comment(""))
	reads(t, "</ a", comment(" a"))
	reads(t, "</1<b", comment("1<b"))
	reads(t, "<?", comment(""))
	reads(t, "<?a<b", comment("a<b"))
	reads(t, "<!doctyp", comment("doctyp"))
	reads(t, "<!doctype", doctype(""))
	reads(t, "<!DOCTYPE  a <b ", doctype("a <b"))
	for _, s := range []string{
		"</a", "</a b", "</a <b", "<a", "<a ", "<a/", "<a b", "<a b ", "<a b=", "<a b= ", "<a b=c", "<a b=c ", "<a b='", "<a b='c>d", "<a b=\"c'>",
		"<a b='c'", "<a =", "<script", "<script b='>", "<a b='c>d</a>e<f g=h>",
	} {
		reads(t, s)
		reads(t, "x"+s, words("x"))
	}
}

// P6.1: at the end of the document, a raw element without its end keeps its text.
func TestEndOfDocumentInRawElements(t *testing.T) {
	for _, name := range []string{"script", "title"} {
		reads(t, "<"+name+">", start(name))
		reads(t, "<"+name+">a<b>", start(name), words("a<b>"))
		for _, rest := range []string{"<", "</", "</" + name[:3], "</" + name, "<!--", "<b"} {
			reads(t, "<"+name+">"+rest, start(name), words(rest))
			reads(t, "<"+name+">a"+rest, start(name), words("a"+rest))
		}
		for _, rest := range []string{" ", "/", " b", "\nb='", "/</" + name} {
			reads(t, "<"+name+"></"+name+rest, start(name))
			reads(t, "<"+name+">a</"+name+rest, start(name), words("a"))
		}
	}
	reads(t, "<style>&lt;", start("style"), words("&lt;"))
	reads(t, "<textarea>&lt;", start("textarea"), words("<"))
}

// P6.1: a document is its repaired form, with line ends normalized.
func TestTextOfDocument(t *testing.T) {
	reads(t, "a\r\nb\rc\nd\r\r\n\n", words("a\nb\nc\nd\n\n\n"))
	reads(t, "\xFFa\xE2\x82", words(unknown+"a"+unknown+unknown))
	reads(t, "<a\xFF b\xE2=\xE2\x82>", start("a"+unknown, "b"+unknown, unknown+unknown))
	reads(t, "<a b='\r\n\r\xFF'>", start("a", "b", "\n\n"+unknown))
	reads(t, "<!--\r\n\xFF-->", comment("\n"+unknown))
	reads(t, "<!doctype a\r\nb\xFF>", doctype("a\nb"+unknown))
	reads(t, "<script>\r\n\r\xFF</script\r\n>\r", start("script"), words("\n\n"+unknown), end("script"), words("\n"))
	reads(t, "<\xFF>", words("<"+unknown+">"))
	reads(t, "</\xFF>", comment(unknown))
	reads(t, "a\x00b<c\x00d>", words("a\x00b"), start("c\x00d"))
	reads(t, "\uFEFFa", words("\uFEFFa"))
}

// next calls Next as long as it returns a token.
func next(t *testing.T, z *markup.Tokenizer) []markup.Token {
	t.Helper()
	var tokens []markup.Token
	for {
		token, ok := z.Next()
		if !ok {
			if !same(token, markup.Token{}) {
				t.Errorf("Next returns a token and false")
			}
			return tokens
		}
		tokens = append(tokens, token)
	}
}

// known checks which tokens Next returns after s has been fed, in one piece and byte by byte, while the document may go on.
func known(t *testing.T, s string, want ...markup.Token) {
	t.Helper()
	var whole, bytewise markup.Tokenizer
	whole.Feed(s)
	var got []markup.Token
	for i := range len(s) {
		bytewise.Feed(s[i : i+1])
		got = append(got, next(t, &bytewise)...)
	}
	if !slices.EqualFunc(got, want, same) {
		t.Errorf("Next after the bytes of %q returns%s\nand not%s", s, show(got), show(want))
	}
	if got = next(t, &whole); !slices.EqualFunc(got, want, same) {
		t.Errorf("Next after %q returns%s\nand not%s", s, show(got), show(want))
	}
}

// P6.1: a step is possible as soon as what ends it was fed, and not before that.
func TestNextAsSoonAsPossible(t *testing.T) {
	for _, c := range []struct {
		s     string
		token markup.Token
	}{
		{"<!---->", comment("")},
		{"<!-->-->", comment(">")},
		{"<!-- a>-- -->", comment(" a>-- ")},
		{"<!doctype a>", doctype("a")},
		{"<!doctype>", doctype("")},
		{"<!doctyp>", comment("doctyp")},
		{"<!->", comment("-")},
		{"<!>", comment("")},
		{"<?>", comment("")},
		{"<?a b>", comment("a b")},
		{"</ a>", comment(" a")},
		{"</a>", end("a")},
		{"</a b='>", end("a")},
		{"<a>", start("a")},
		{"<a/>", closed("a")},
		{"<a b='>' c=\">\" d>", start("a", "b", ">", "c", ">", "d", "")},
		{"<script>", start("script")},
		{"a<b", words("a")},
		{"a<!", words("a")},
		{"a</", words("a")},
		{"a<?", words("a")},
		{"<1< <b", words("<1< ")},
		{"<<b", words("<")},
		{"&lt</", words("<")},
	} {
		known(t, c.s[:len(c.s)-1])
		known(t, c.s, c.token)
	}
	known(t, "</>")
	known(t, "</></><b>", start("b"))
}

// P6.1: while a text may go on, it is no token, whatever its end is.
func TestNextWaits(t *testing.T) {
	for _, s := range []string{
		"", " ", "a", "a b", "a<", "<", "<<", "< ", "<1", "<1<", "a&lt;", "<!", "<!-", "<!--", "<!-->", "<!--->", "<!--a--", "<!d", "<!doctype",
		"</", "</a", "</a ", "<?", "<a", "<a ", "<a b='>", "<a b=\">'", "<a/", "a\r", "a\xE2", "\xE2\x82", "</>a", "</></",
	} {
		known(t, s)
	}
}

// P6.1: the text of a raw element is known with the character after the name of its end, and the end with its >.
func TestNextInRawElements(t *testing.T) {
	for _, name := range []string{"script", "textarea"} {
		known(t, "<"+name+">", start(name))
		for _, rest := range []string{"a", "<", "</", "</x>", "<b>", "</" + name[:3], "</" + name} {
			known(t, "<"+name+">"+rest, start(name))
			known(t, "<"+name+">a"+rest, start(name))
		}
		for _, after := range []string{" ", "/", "\n", " b='"} {
			known(t, "<"+name+"></"+name+after, start(name))
			known(t, "<"+name+">a</"+name+after, start(name), words("a"))
			known(t, "<"+name+"></"+name+after+">", start(name), end(name))
			known(t, "<"+name+">a</"+name+after+">", start(name), words("a"), end(name))
		}
		known(t, "<"+name+"></"+name+">", start(name), end(name))
		known(t, "<"+name+">a</"+name+">b<c", start(name), words("a"), end(name), words("b"))
	}
}

// P6.1: the fields of a Tokenizer contain the state that the document describes.
func TestState(t *testing.T) {
	var z markup.Tokenizer
	state := func(rest, raw, undecoded string, returned bool) {
		t.Helper()
		want := markup.Tokenizer{Decoder: text.Decoder{Rest: undecoded}, Rest: rest, Raw: raw, Return: returned}
		if z != want {
			t.Errorf("the state is %s and not %s", showState(z), showState(want))
		}
	}
	state("", "", "", false)
	z.Feed("a\r")
	state("a\n", "", "", true)
	z.Feed("")
	state("a\n", "", "", true)
	z.Feed("\n")
	state("a\n", "", "", false)
	z.Feed("\n\r")
	state("a\n\n\n", "", "", true)
	z.Feed("\r")
	state("a\n\n\n\n", "", "", true)
	z.Feed("\xE2")
	state("a\n\n\n\n", "", "\xE2", true)
	z.Feed("\x82\xACb<style x")
	state("a\n\n\n\n€b<style x", "", "", false)
	next(t, &z)
	state("<style x", "", "", false)
	z.Feed(">c</b>")
	state("<style x>c</b>", "", "", false)
	next(t, &z)
	state("c</b>", "style", "", false)
	z.Feed("</style ")
	next(t, &z)
	state("</style ", "style", "", false)
	z.Feed("></>\xF0\x9F")
	next(t, &z)
	state("", "", "\xF0\x9F", false)
	z.Feed("\r")
	state(unknown+unknown+"\n", "", "", true)
	z.Feed("<title>")
	next(t, &z)
	state("", "title", "", false)
}

// P6.1: a carriage return that is not the last character any more removes no line feed.
func TestReturnBeforeIncompleteSequence(t *testing.T) {
	var z markup.Tokenizer
	for _, piece := range []string{"\r", "\xE2", "\n", "\r", "", "\n\n"} {
		z.Feed(piece)
	}
	if got, want := z.Finish(), list(words("\n"+unknown+"\n\n\n")); !slices.EqualFunc(got, want, same) {
		t.Errorf("the tokens are%s\nand not%s", show(got), show(want))
	}
}

// P6.1: Finish leaves a new tokenizer, whatever state it was in.
func TestFinishLeavesNew(t *testing.T) {
	for _, s := range []string{"", "a", "<a", "<script>", "<title>a", "<style>a</style ", "a\r", "\r", "\xE2", "a\r\xF0\x9F", "<!--", "<", "</>"} {
		for _, first := range []bool{false, true} {
			var z markup.Tokenizer
			z.Feed(s)
			if first {
				next(t, &z)
			}
			z.Finish()
			if z != (markup.Tokenizer{}) {
				t.Errorf("Finish after %q leaves %s", s, showState(z))
			}
			if token, ok := z.Next(); ok || !same(token, markup.Token{}) {
				t.Errorf("Next after Finish after %q returns a token", s)
			}
			if tokens := z.Finish(); len(tokens) > 0 {
				t.Errorf("a second Finish after %q returns%s", s, show(tokens))
			}
			z.Feed("\n<b>\xAC")
			if got, want := z.Finish(), list(words("\n"), start("b"), words(unknown)); !slices.EqualFunc(got, want, same) {
				t.Errorf("the document after %q is%s\nand not%s", s, show(got), show(want))
			}
		}
	}
}

// P6.1: tokens share no memory with each other or with the tokenizer, and a Tokenizer may be copied.
func TestTokensAreNewMemory(t *testing.T) {
	const s = "<a b=1 c=2><a b=1 c=2>"
	var z markup.Tokenizer
	z.Feed(s)
	copied := z
	for _, token := range append(append(markup.Tokens(s), markup.Tokens(s)...), next(t, &z)...) {
		if !same(token, start("a", "b", "1", "c", "2")) {
			t.Fatalf("the token is%s", show(list(token)))
		}
		_ = append(token.Attrs, api.Attr{Name: "more"})
		clear(token.Attrs[:cap(token.Attrs)])
	}
	if got := next(t, &copied); !slices.EqualFunc(got, markup.Tokens(s), same) {
		t.Errorf("the tokens of the copy are%s", show(got))
	}
}

// P6.1: nothing is promised for a Tokenizer whose fields were written by hand, but that its methods end.
func TestAnyTokenizerEnds(t *testing.T) {
	for _, raw := range []string{"", "script", "SCRIPT", "x", "/", ">", " ", "<", "</", "a>b", "\xFF", strings.Repeat("a", 1000)} {
		for _, rest := range []string{"", "<", "</", "</>", "</>>", "</script>", "</SCRIPT>", "</x>", "<//>", "</ >", "</<>", "</</>", "</a>b>", "\r\n\xFF<b", "</\xFF>"} {
			for _, undecoded := range []string{"", "\xE2\x82", "abc\xFF\r"} {
				z := markup.Tokenizer{Decoder: text.Decoder{Rest: undecoded}, Rest: rest, Raw: raw, Return: true}
				next(t, &z)
				z.Feed("\n<a></")
				next(t, &z)
				z.Finish()
				if z != (markup.Tokenizer{}) {
					t.Errorf("Finish leaves %s", showState(z))
				}
			}
		}
	}
}

// fed returns the tokens of pieces, with Next called after a piece as often as calls returns, at most until there is no token.
func fed(pieces []string, calls func() int) []markup.Token {
	var z markup.Tokenizer
	var tokens []markup.Token
	for _, piece := range pieces {
		z.Feed(piece)
		for range calls() {
			token, ok := z.Next()
			if !ok {
				break
			}
			tokens = append(tokens, token)
		}
	}
	return append(tokens, z.Finish()...)
}

// divides checks that pieces have the tokens of the whole document.
func divides(t *testing.T, calls int, pieces ...string) {
	t.Helper()
	s := strings.Join(pieces, "")
	got, want := fed(pieces, func() int { return calls }), markup.Tokens(s)
	if !slices.EqualFunc(got, want, same) {
		t.Fatalf("the tokens of %q, with %d calls of Next each, are%s\nand not%s", pieces, calls, show(got), show(want))
	}
}

// documents returns documents with constructs of all kinds, whole and broken ones.
func documents() []string {
	return []string{
		"", "<p class=a ID='b'>x &lt; y<br/></P>", "a<b<c>", "1 < 2 <!--x", "</><a b", "<!-->a--><!--b--->c-- ></d>", "<!->a<!>b<!-- -->",
		"<!DOCTYPE  html\r\n>\r\n\n\ra", "<!doctyp>e<!doctypes ><!doc", "a\xE2\x82\xAC<\xE2\x82b\xF0\x9F>\xFF\r\xAC\n", "&lt&l<b>t;&#6&#53;&am</i>p;",
		"<script>if (a<b) &lt;x</scrip></SCRIPT ></script>", "<title>a&am</titlep;&amp</title/>b", "<style></style\r\n", "<textarea>&lt</textarea",
		"<a b='>\"\r\n' c=\">'/>\" d=e/>f</a b='>'>", "<a b = c =d e= 'f'g=\"h\"/ / i>", "</ a></1><?b?></></", "a</", "<", "x<", "<<", "<!", "<?x", "<a b='>", "</a x",
	}
}

// P6.2: any division into two or three pieces, and into single bytes, gives the same tokens.
func TestDivisions(t *testing.T) {
	for _, s := range documents() {
		for calls := range 3 {
			divides(t, calls, s)
			divides(t, calls, strings.Split(string([]rune(s)), "")...)
		}
		for _, calls := range []int{0, 1, len(s) + 1} {
			var single []string
			for i := range len(s) {
				single = append(single, s[i:i+1])
				divides(t, calls, s[:i], s[i:])
				for j := i; j <= len(s); j++ {
					divides(t, calls, s[:i], s[i:j], s[j:])
				}
			}
			divides(t, calls, single...)
		}
	}
}

// P6.2: random divisions of random documents, with Next called at random times, give the same tokens.
func TestRandomDivisions(t *testing.T) {
	random := random()
	for range 30000 {
		s := randomDocument(random, 16)
		var pieces []string
		for rest := s; ; {
			size := min(random(5), len(rest))
			pieces, rest = append(pieces, rest[:size]), rest[size:]
			if rest == "" {
				break
			}
		}
		got, want := fed(pieces, func() int { return random(4) }), markup.Tokens(s)
		if !slices.EqualFunc(got, want, same) {
			t.Fatalf("the tokens of %q are%s\nand not%s", pieces, show(got), show(want))
		}
	}
}

// P6.2: what Next returned stays the beginning of the tokens, however the document goes on.
func TestNextOfBeginnings(t *testing.T) {
	random := random()
	for range 10000 {
		s := randomDocument(random, 12)
		all := markup.Tokens(s)
		for i := range len(s) + 1 {
			var z markup.Tokenizer
			z.Feed(s[:i])
			got := next(t, &z)
			if len(got) > len(all) || !slices.EqualFunc(got, all[:len(got)], same) {
				t.Fatalf("the first %d bytes of %q have%s\nwhich do not begin%s", i, s, show(got), show(all))
			}
		}
	}
}

// P6.1: the tokens of random documents follow the document's rules.
func TestTokensAreAsTheModel(t *testing.T) {
	random := random()
	for range 60000 {
		s := randomDocument(random, 14)
		reads(t, s, model(s)...)
		if t.Failed() {
			return
		}
	}
}

// P6.3: no Text is empty, and names are neither empty nor contain letters from A to Z.
func TestTextsAndNamesOfTokens(t *testing.T) {
	random := random()
	for range 30000 {
		s := randomDocument(random, 14)
		for _, token := range markup.Tokens(s) {
			names := []string{}
			switch token.Kind {
			case markup.Text:
				if token.Text == "" {
					t.Fatalf("%q has an empty Text", s)
				}
			case markup.Start, markup.End:
				names = append(names, token.Name)
			}
			for _, attr := range token.Attrs {
				names = append(names, attr.Name)
			}
			for _, name := range names {
				if name == "" || strings.ContainsAny(name, "ABCDEFGHIJKLMNOPQRSTUVWXYZ") {
					t.Fatalf("%q has the name %q", s, name)
				}
			}
		}
	}
}

// P6.3: a text of one character is not empty, whichever it is.
func TestTextOfOneCharacter(t *testing.T) {
	for c := range 256 {
		s := string([]byte{byte(c)})
		reads(t, s, words(text.Newlines(text.Repair(s))))
		reads(t, "<script>"+s, start("script"), words(text.Newlines(text.Repair(s))))
	}
	for _, name := range entity.Names() {
		char, _ := entity.Lookup(name)
		reads(t, "&"+name+";", words(char))
		reads(t, "<title>&"+name+";</title>", start("title"), words(char), end("title"))
	}
}

// P6.1: long documents of beginnings of constructs are read in reasonable time.
func TestLongDocuments(t *testing.T) {
	const size = 1 << 15
	for _, part := range []string{"a", "<", "< ", "&", "&lt;", "</", "</>", "</x>", "<!", "<!--", "<!---->", "<!doctype", "<a", "<a>", "<a b", " b=", "<a b='", "\r", "\xE2", "-", "--", "\"", "<script", "</script"} {
		for _, before := range []string{"", "<a ", "<a b='", "<script>", "<title>", "<!--", "</b "} {
			for _, after := range []string{"", ">", "</script>"} {
				var z markup.Tokenizer
				z.Feed(before + strings.Repeat(part, size) + after)
				next(t, &z)
				z.Finish()
			}
		}
	}
	for _, part := range []string{"<a>", "<b c='d'/>", "</a>", "<!---->", "<!>", "<!doctype>"} {
		if got := len(markup.Tokens(strings.Repeat(part, size))); got != size {
			t.Errorf("%d times %q are %d tokens", size, part, got)
		}
	}
	reads(t, strings.Repeat("</>", size))
	reads(t, strings.Repeat("a", size), words(strings.Repeat("a", size)))
}
