package arena

import (
	"slices"
	"strconv"

	"riddle/api"
)

// Each field of a node's text has a mark of its own ahead, which no number has: so that two texts are the same only if
// all fields are.
const (
	divisorMark  = 'd'
	partMark     = 'p'
	constantMark = 'k'
	variableMark = 'v'
	kidMark      = 'n'
	limbMark     = '.'
	minus        = '-'
	decimal      = 10
)

// text tells all that a node is, by its numbers' limbs: their decimal texts would take far longer, where the numbers are
// so long that the meter refuses them.
func text(n api.Node) string {
	b := strconv.AppendInt(nil, int64(n.Kind), decimal)
	b = appendInt(append(b, divisorMark), n.D)
	for _, part := range n.T.Parts {
		b = strconv.AppendInt(append(b, partMark), int64(part.Var), decimal)
		b = appendInt(b, part.C)
	}
	b = appendInt(append(b, constantMark), n.T.K)
	b = strconv.AppendInt(append(b, variableMark), int64(n.Var), decimal)
	for _, kid := range n.Kids {
		b = strconv.AppendInt(append(b, kidMark), int64(kid), decimal)
	}
	return string(b)
}

func appendInt(b []byte, n api.Int) []byte {
	if n.Neg {
		b = append(b, minus)
	}
	for _, limb := range n.Mag {
		b = strconv.AppendUint(append(b, limbMark), uint64(limb), decimal)
	}
	return b
}

// numbers are those that the meter looks at. A field that a node's kind gives no meaning is 0, which no bound refuses.
func numbers(n api.Node) []api.Int {
	l := []api.Int{n.D, n.T.K}
	for _, part := range n.T.Parts {
		l = append(l, part.C)
	}
	return l
}

// copied shares no memory with the node.
func copied(n api.Node) api.Node {
	parts := slices.Clone(n.T.Parts)
	for i := range parts {
		parts[i].C = copiedInt(parts[i].C)
	}
	n.D = copiedInt(n.D)
	n.T = api.Term{Parts: parts, K: copiedInt(n.T.K)}
	n.Kids = slices.Clone(n.Kids)
	return n
}

func copiedInt(n api.Int) api.Int {
	return api.Int{Neg: n.Neg, Mag: slices.Clone(n.Mag)}
}

// binds tells whether nodes of a kind are quantifiers.
func binds(kind int) bool {
	return kind == api.Some || kind == api.All
}
