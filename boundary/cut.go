package boundary

import (
	"batchline/api"
	"batchline/round"
)

// rules cut a mixture of so many litres: each returns what goes to the left batch, to the right one, and to slop.
type rules struct{ mixture int }

// numbered is a rule with its number.
type numbered struct {
	number int
	cut    func(rules) (int, int, int)
}

// Cut returns how much of a mixture goes to the left batch, to the right one, and to slop.
func Cut(mixture, rule int) (int, int, int, api.Errno) {
	if mixture < 0 || mixture > api.MaxCapacity {
		return 0, 0, 0, api.ErrRange
	}
	for _, r := range allRules() {
		if r.number == rule {
			left, right, slop := r.cut(rules{mixture})
			return left, right, slop, api.OK
		}
	}
	return 0, 0, 0, api.ErrForm
}

// allRules returns the rules that there are.
func allRules() []numbered {
	return []numbered{
		{api.CutMiddle, rules.middle},
		{api.CutLeft, rules.left},
		{api.CutRight, rules.right},
		{api.CutSlop, rules.slop},
		{api.CutThird, rules.third},
	}
}

// middle divides the mixture between the batches; the left one gets a litre that is left over.
func (r rules) middle() (int, int, int) {
	half := round.Up(r.mixture, 2)
	return half, r.mixture - half, 0
}

// left gives all of the mixture to the left batch.
func (r rules) left() (int, int, int) { return r.mixture, 0, 0 }

// right gives all of the mixture to the right batch.
func (r rules) right() (int, int, int) { return 0, r.mixture, 0 }

// slop gives all of the mixture to slop.
func (r rules) slop() (int, int, int) { return 0, 0, r.mixture }

// third gives a third of the mixture to each batch; slop gets its own third, and what is left over.
func (r rules) third() (int, int, int) {
	third := round.Down(r.mixture, 3)
	return third, third, r.mixture - 2*third
}
