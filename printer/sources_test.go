package printer_test

import (
	"reflect"
	"strings"
	"testing"

	"relyguard/api"
	"relyguard/lexer"
	"relyguard/parser"
	"relyguard/printer"
)

// tooLong reports whether a text exceeds a limit of the lexer.
func tooLong(text string) bool {
	_, err, _ := lexer.Lex(text)
	return err == api.ErrLimit
}

// short returns the sources whose texts the lexer accepts.
func short(t *testing.T) []sample {
	t.Helper()
	var list []sample
	for _, x := range sources() {
		if !tooLong(x.text) {
			list = append(list, x)
		}
	}
	if len(list) < 250 {
		t.Fatal("too few sources:", len(list))
	}
	return list
}

// P3.1: C2 for every form of every item.
func TestSource(t *testing.T) {
	long := 0
	for _, x := range sources() {
		text, err := printer.Source(x.node)
		if tooLong(x.text) {
			long++
			if text != "" || err != api.ErrLimit {
				t.Fatalf("%v and %d bytes for a text that is too long", err, len(text))
			}
		} else if text != x.text || err != api.OK {
			t.Fatalf("%v\n%s\ninstead of\n%s", err, text, x.text)
		}
	}
	if long == 0 {
		t.Error("no source is too long")
	}
}

// P3.1: a source with all kinds of items, written by hand.
func TestWholeSource(t *testing.T) {
	const text = `module Bank owner Ann {
  record acc {
    total : 3;
    last : 2;
  }
  record e {
  }
  shared a : acc = 1;
  ghost shared a[4] : 2 = 1;
  shared slots[4] : 2;
  lock m invariant a.total <= 5;
  rely (all i < 2 : old(slots[i]) <= slots[i]) && old(a.last) <= a.last;
  guarantee done;
  frame a.total, slots;
  proc put(v : 2, w : 1) locked m {
    ghost local r : 3;
    local s : 1;
    assert v <= 2;
    r := a.total;
    release x := e with g := 1;
    if v == 0 {
      skip;
    } else {
      if w {
      }
    }
    if (v + 1) * w == 0 {
    } else {
      fence;
    }
    while r < 3 variant 3 - r {
      while r {
      }
      r := r + 1 with done := 1, r := 0;
    }
  }
  proc get() {
    atomic { };
    atomic { } when (x ==> y) ==> z;
    atomic { x := 1, y := 2 } when x == 0;
    atomic { slots[0] := slots[1] };
    cas x, 0, (a < b) == c into r with done := 1;
    cas a.total, all i < 2 : x, 1 into s[r];
    acquire m;
    free Bank.m;
    spawn t;
    join t;
    await x;
    call put(1, (a ==> b) ==> c);
    call Bank.get();
  }
}
module M owner A {
}
asleep thread t = Bank.put(1, 0);
thread u = Bank.get();
`
	for _, source := range []string{text, unlaid(text, " "), unlaid(text, "\n\t// gap\n")} {
		tree, diags := parser.Parse(source)
		if got, err := printer.Source(tree); got != text || err != api.OK || len(diags) > 0 {
			t.Errorf("%v, %v\n%s", diags, err, got)
		}
	}
}

// unlaid returns the tokens of a source with a gap between them.
func unlaid(source, gap string) string {
	tokens, _, _ := lexer.Lex(source)
	var texts []string
	for _, x := range tokens {
		texts = append(texts, x.Text)
	}
	return strings.Join(texts, gap)
}

// P3.2, and P3.3: the text is parsed to the tree, and the tree that is parsed has this text.
func TestRoundTrip(t *testing.T) {
	for _, x := range short(t) {
		text, _ := printer.Source(x.node)
		tree, diags := parser.Parse(text)
		if len(diags) > 0 || !reflect.DeepEqual(parser.Strip(tree), parser.Strip(x.node)) {
			t.Fatalf("%v for\n%s", diags, text)
		}
		if again, err := printer.Source(tree); again != text || err != api.OK {
			t.Fatalf("%v\n%s\ninstead of\n%s", err, again, text)
		}
	}
}

// P3.3: other offsets do not change the text, and other trees do.
func TestCanonicalSources(t *testing.T) {
	seen := map[string]api.Node{}
	for _, x := range short(t) {
		text, _ := printer.Source(x.node)
		if other, ok := seen[text]; ok && !reflect.DeepEqual(parser.Strip(other), parser.Strip(x.node)) {
			t.Fatalf("two trees have the text\n%s", text)
		}
		seen[text] = x.node
		at := -3
		moved := shifted(x.node, &at)
		if again, err := printer.Source(moved); again != text || err != api.OK {
			t.Fatalf("with other offsets:\n%s\ninstead of\n%s", again, text)
		}
	}
}

// shifted returns a tree with different offsets for all nodes.
func shifted(n api.Node, at *int) api.Node {
	*at += 1000
	n.At = *at
	kids := n.Kids
	n.Kids = nil
	for _, kid := range kids {
		n.Kids = append(n.Kids, shifted(kid, at))
	}
	return n
}

// P3.5.
func TestLayout(t *testing.T) {
	for _, x := range short(t) {
		text, _ := printer.Source(x.node)
		if wrong := layout(text); wrong != "" {
			t.Fatalf("%s in\n%s", wrong, text)
		}
	}
}

// layout says what is wrong with the layout of a text.
func layout(text string) string {
	if text != "" && !strings.HasSuffix(text, "\n") {
		return "no line feed at the end"
	}
	depth := 0
	for line := range strings.Lines(text) {
		line = strings.TrimSuffix(line, "\n")
		rest := strings.TrimLeft(line, " ")
		open := depth
		if strings.HasPrefix(rest, "}") {
			open--
		}
		switch {
		case rest == "":
			return "an empty line"
		case strings.HasSuffix(line, " "):
			return "a blank at the end of a line"
		case strings.Contains(rest, "  "):
			return "two blanks"
		case len(line)-len(rest) != 2*open:
			return "a wrong number of blanks before " + rest
		}
		depth += strings.Count(line, "{") - strings.Count(line, "}")
	}
	return ""
}

// P3.6.
func TestConcatenation(t *testing.T) {
	for _, x := range short(t) {
		whole, _ := printer.Source(x.node)
		parts := ""
		for _, kid := range x.node.Kids {
			part, err := printer.Source(api.Node{Kind: api.NodeSource, Kids: []api.Node{kid}})
			if err != api.OK {
				t.Fatal(err)
			}
			parts += part
		}
		if parts != whole {
			t.Fatalf("\n%s\ninstead of\n%s", parts, whole)
		}
	}
}

// P3.7 for the operands of the expressions in a source.
func TestSubstitutionInSources(t *testing.T) {
	replaced := 0
	for i, x := range short(t) {
		if i%3 != 0 {
			continue
		}
		before, _ := printer.Source(x.node)
		for _, s := range substitutions(x.node) {
			after, err := printer.Source(s.tree)
			if err != api.OK || !changesOnly(before, after, s.operand) {
				t.Fatalf("%v\n%s\nbecomes\n%s", err, before, after)
			}
			replaced++
		}
	}
	if replaced < 1000 {
		t.Error("too few operands:", replaced)
	}
}
