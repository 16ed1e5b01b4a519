package markup_test

import (
	"regexp"
	"slices"
	"strings"

	"knapsack/api"
	"knapsack/entity"
	"knapsack/markup"
	"knapsack/text"
)

// rule is what a step in the normal mode takes from the beginning of the remaining text, and the token that it makes of its groups.
type rule struct {
	pattern *regexp.Regexp
	tokens  func(groups []string) []markup.Token
}

// shortRules returns the rules of the normal mode but for start tags and texts, with \z for the end of the document: the first that matches applies.
func shortRules() []rule {
	none := func([]string) []markup.Token { return nil }
	note := func(g []string) []markup.Token { return list(comment(g[1])) }
	return []rule{
		{regexp.MustCompile(`^<!--((?s:.*?))(?:-->|\z)`), note},
		{regexp.MustCompile(`^<![dD][oO][cC][tT][yY][pP][eE]([^>]*)(?:>|\z)`), func(g []string) []markup.Token {
			return list(doctype(strings.Trim(g[1], "\t\n\f\r ")))
		}},
		{regexp.MustCompile(`^</([a-zA-Z][^\t\n\f\r />]*)[^>]*>`), func(g []string) []markup.Token { return list(end(lower(g[1]))) }},
		{regexp.MustCompile(`^</[a-zA-Z][^>]*\z`), none},
		{regexp.MustCompile(`^</>`), none},
		{regexp.MustCompile(`^<[/!?]([^>]*)(?:>|\z)`), note},
	}
}

// lower converts A to Z, and no other letters.
func lower(s string) string {
	return strings.Map(func(r rune) rune {
		if r >= 'A' && r <= 'Z' {
			return r + 32
		}
		return r
	}, s)
}

// model returns the tokens of a document, by the words of the document's rules.
func model(s string) []markup.Token {
	s = text.Newlines(text.Repair(s))
	var tokens []markup.Token
	raw := ""
	for s != "" {
		var more []markup.Token
		if raw != "" {
			more, s = modelRaw(s, raw)
			raw = ""
		} else {
			more, s = modelStep(s)
		}
		tokens = append(tokens, more...)
		if len(more) == 1 && more[0].Kind == markup.Start && slices.Contains(strings.Fields("script style title textarea"), more[0].Name) {
			raw = more[0].Name
		}
	}
	return tokens
}

// modelStep returns the tokens of a step in the normal mode, and what remains.
func modelStep(s string) ([]markup.Token, string) {
	for _, r := range short {
		if g := r.pattern.FindStringSubmatch(s); g != nil {
			return r.tokens(g), s[len(g[0]):]
		}
	}
	if startName.MatchString(s) {
		return modelStart(s)
	}
	// A text: up to the next construct behind its first character.
	size := len(s)
	if at := construct.FindStringIndex(s[1:]); at != nil {
		size = 1 + at[0]
	}
	return list(words(entity.Decode(s[:size]))), s[size:]
}

var (
	short     = shortRules()
	construct = regexp.MustCompile(`<[a-zA-Z/!?]`)
	startName = regexp.MustCompile(`^<([a-zA-Z][^\t\n\f\r />]*)`)
	skipped   = regexp.MustCompile(`^[\t\n\f\r /]*`)
	attrName  = regexp.MustCompile(`^[^\t\n\f\r />][^\t\n\f\r />=]*`)
	equal     = regexp.MustCompile(`^[\t\n\f\r ]*=[\t\n\f\r ]*`)
	quoted    = regexp.MustCompile(`^(?:"([^"]*)"|'([^']*)')`)
	opened    = regexp.MustCompile(`^["']`)
	unquoted  = regexp.MustCompile(`^[^\t\n\f\r >]*`)
)

// modelStart returns the token of a start tag, none if it lacks its end, and what remains.
func modelStart(s string) ([]markup.Token, string) {
	g := startName.FindStringSubmatch(s)
	token, s := start(lower(g[1])), s[len(g[0]):]
	for {
		gap := skipped.FindString(s)
		s = s[len(gap):]
		if s == "" {
			return nil, ""
		}
		if s[0] == '>' {
			token.Closed = strings.HasSuffix(gap, "/")
			return list(token), s[1:]
		}
		attr := api.Attr{Name: attrName.FindString(s)}
		s = s[len(attr.Name):]
		attr.Name = lower(attr.Name)
		if e := equal.FindString(s); e != "" {
			s = s[len(e):]
			if g := quoted.FindStringSubmatch(s); g != nil {
				attr.Value, s = g[1]+g[2], s[len(g[0]):]
			} else if opened.MatchString(s) {
				return nil, ""
			} else {
				attr.Value = unquoted.FindString(s)
				s = s[len(attr.Value):]
			}
			attr.Value = entity.Decode(attr.Value)
		}
		taken := false
		for _, other := range token.Attrs {
			taken = taken || other.Name == attr.Name
		}
		if !taken && len(token.Attrs) < 64 {
			token.Attrs = append(token.Attrs, attr)
		}
	}
}

// modelRaw returns the tokens of the content of a raw or plain element and of its end, and what remains.
func modelRaw(s, name string) ([]markup.Token, string) {
	pattern := "</"
	for _, c := range name {
		pattern += "[" + string(c) + string(c-32) + "]"
	}
	content, rest := s, ""
	if at := regexp.MustCompile(pattern + "[\t\n\f\r />]").FindStringIndex(s); at != nil {
		content, rest = s[:at[0]], s[at[0]:]
	}
	var tokens []markup.Token
	if content != "" {
		if name == "title" || name == "textarea" {
			content = entity.Decode(content)
		}
		tokens = list(words(content))
	}
	if _, after, ok := strings.Cut(rest, ">"); ok {
		return append(tokens, end(name)), after
	}
	return tokens, ""
}
