package verdict

import (
	"riddle/api"
	"riddle/syntax"
)

// A refusal is thrown wherever a question can't be answered, so that the steps towards an answer need not look at what came
// of one another.
type refusal struct{ why api.Errno }

// refuse throws an error, if there is one.
func refuse(e api.Errno) {
	if e != api.OK {
		panic(refusal{e})
	}
}

func refuseIf(is bool, e api.Errno) {
	if is {
		refuse(e)
	}
}

// answered is what a question to a formula with these free names comes to. If it is refused, the answer has not been set, and
// is zero beside the error.
func answered[T any](t api.Tree, question func(free []string) T) (answer T, e api.Errno) {
	defer func() {
		switch met := recover().(type) {
		case nil:
		case refusal:
			e = met.why
		default:
			panic(met)
		}
	}()
	refuse(syntax.Check(t))
	return question(syntax.Free(t)), api.OK
}
