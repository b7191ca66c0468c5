package atom

import (
	"strconv"
	"strings"

	"riddle/api"
	"riddle/zint"
)

// Text is how it is written, with v and its number for a variable.
func Text(a api.Atom) string {
	a, e := Norm(a)
	if e != api.OK {
		return ""
	}
	switch a.Kind {
	case api.False:
		return "false"
	case api.True:
		return "true"
	case api.Less:
		return "0<" + termText(a.T)
	case api.Div:
		return zint.Text(a.D) + "|" + termText(a.T)
	}
	return zint.Text(a.D) + "!" + termText(a.T)
}

// termText is the text of a term that stands and has parts: so that its constant's sign is always written.
func termText(t api.Term) string {
	var b strings.Builder
	for i, p := range t.Parts {
		if i > 0 || p.C.Neg {
			b.WriteString(sign(p.C))
		}
		if magnitude := zint.Text(zint.Abs(p.C)); magnitude != "1" {
			b.WriteString(magnitude)
		}
		b.WriteString("v" + strconv.Itoa(p.Var))
	}
	if zint.Sign(t.K) != 0 {
		b.WriteString(sign(t.K) + zint.Text(zint.Abs(t.K)))
	}
	return b.String()
}

func sign(n api.Int) string {
	if n.Neg {
		return "-"
	}
	return "+"
}
