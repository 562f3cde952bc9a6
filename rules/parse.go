package rules

import (
	"strings"

	"larder/api"
	"larder/values"
)

// Kind tells what a part of a rule is.
type Kind int

const (
	None     Kind = iota // no part begins like this
	Operator             // two parts and an operator's byte: the one kind that is no FACTOR
	Literal              // digits, or a word
	Name                 // a key by its name
	It                   // the value that an each or some is at
	Minus                // - and a part
	Group                // a part in ( )
	Key                  // a key by a part in [ ]
	List                 // parts in { }
	If                   // what is asked, and the two ways
	Size
	Sum
	Word
	Both // min, max or at: two parts and the byte that stands for the term
	Try
	Each
	Some
)

// Node is a part of a rule, and the parts in it.
type Node struct {
	Kind  Kind
	Op    byte         // of Operator and Both: what Make of package values goes by
	Name  string       // of Name
	Is    values.Value // of Literal
	Parts []*Node
}

// refusal is what the parser gives up with.
type refusal struct {
	code api.Errno
	at   int
}

type parser struct {
	text string
	tok  token // the next one that is not taken
	deep int   // in how many FACTORs that one stands
	its  int   // in how many second RULEs of each and some
}

// Parse makes a rule's tree; of a text that is no rule it tells the error and its place.
func Parse(text string) (tree *Node, code api.Errno, at int) {
	if len(text) > api.MaxRule {
		return nil, api.ErrLong, 0
	}
	defer func() {
		reason := recover()
		switch r := reason.(type) {
		case nil:
		case refusal:
			tree, code, at = nil, r.code, r.at
		default:
			panic(reason)
		}
	}()
	p := &parser{text: text, tok: tokenAt(text, 0)}
	tree = p.rule()
	if p.tok.kind != end {
		p.refuse(api.ErrForm)
	}
	return tree, api.OK, 0
}

func (p *parser) refuse(code api.Errno) {
	panic(refusal{code, p.tok.at})
}

// take gives the next token and goes on behind it.
func (p *parser) take() token {
	t := p.tok
	p.tok = tokenAt(p.text, t.at+len(t.text))
	return t
}

// sees tells whether the next token is this sign or term. (Words stand in tokens with their quotes, so none is taken for a sign.)
func (p *parser) sees(text string) bool { return p.tok.text == text }

func (p *parser) expect(text string) {
	if !p.sees(text) {
		p.refuse(api.ErrForm)
	}
	p.take()
}

func (p *parser) seesOne(signs string) bool {
	return p.tok.kind == sign && strings.Contains(signs, p.tok.text)
}

func (p *parser) rule() *Node {
	x := p.sum()
	if p.seesOne("<=") {
		return p.operator(x, p.sum)
	}
	return x
}

func (p *parser) sum() *Node { return p.row("+-", p.term) }

func (p *parser) term() *Node { return p.row("*/", p.factor) }

// row reads parts with signs between them, and binds them from the left.
func (p *parser) row(signs string, part func() *Node) *Node {
	x := part()
	for p.seesOne(signs) {
		x = p.operator(x, part)
	}
	return x
}

func (p *parser) operator(left *Node, right func() *Node) *Node {
	op := p.take().text[0]
	return &Node{Kind: Operator, Op: op, Parts: []*Node{left, right()}}
}

// factor looks at the form ahead of the depth: a token that cannot stand here begins no FACTOR that could be too deep.
func (p *parser) factor() *Node {
	kind := p.kindHere()
	if kind == None {
		p.refuse(api.ErrForm)
	}
	if p.deep == api.MaxDeep {
		p.refuse(api.ErrDeep)
	}
	p.deep++
	first := p.take()
	node := &Node{Kind: kind, Is: first.is}
	switch kind {
	case Name:
		node.Name = first.text
	case Both:
		node.Op = termByte(first.text)
	}
	node.Parts = p.parts(kind)
	p.deep--
	return node
}

// kindHere tells what FACTOR the next token begins.
func (p *parser) kindHere() Kind {
	switch p.tok.kind {
	case digits, word:
		return Literal
	case name:
		return Name
	case term:
		return p.termKind()
	case sign:
		return signKind(p.tok.text)
	}
	return None
}

func signKind(text string) Kind {
	switch text {
	case "-":
		return Minus
	case "(":
		return Group
	case "[":
		return Key
	case "{":
		return List
	}
	return None
}

func (p *parser) termKind() Kind {
	switch p.tok.text {
	case "it":
		if p.its > 0 {
			return It
		}
	case "if":
		return If
	case "size":
		return Size
	case "sum":
		return Sum
	case "word":
		return Word
	case "min", "max", "at":
		return Both
	case "try":
		return Try
	case "each":
		return Each
	case "some":
		return Some
	}
	return None
}

func termByte(text string) byte {
	switch text {
	case "min":
		return values.OpMin
	case "max":
		return values.OpMax
	}
	return values.OpAt
}

// parts reads what stands in a FACTOR behind its first token.
func (p *parser) parts(kind Kind) []*Node {
	switch kind {
	case Minus:
		return []*Node{p.factor()}
	case Group:
		return []*Node{p.ruleUpTo(")")}
	case Key:
		return []*Node{p.ruleUpTo("]")}
	case List:
		return p.items()
	case If:
		return []*Node{p.ruleUpTo("then"), p.ruleUpTo("else"), p.factor()}
	case Size, Sum, Word:
		p.expect("(")
		return []*Node{p.ruleUpTo(")")}
	case Both, Try:
		p.expect("(")
		return []*Node{p.ruleUpTo(","), p.ruleUpTo(")")}
	case Each, Some:
		p.expect("(")
		return []*Node{p.ruleUpTo(","), p.ruleWithIt()}
	}
	return nil
}

func (p *parser) ruleUpTo(text string) *Node {
	x := p.rule()
	p.expect(text)
	return x
}

func (p *parser) ruleWithIt() *Node {
	p.its++
	x := p.ruleUpTo(")")
	p.its--
	return x
}

func (p *parser) items() []*Node {
	if p.sees("}") {
		p.take()
		return nil
	}
	items := []*Node{p.rule()}
	for p.sees(",") {
		p.take()
		items = append(items, p.rule())
	}
	p.expect("}")
	return items
}
