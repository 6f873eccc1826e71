package boundary

import (
	"math"
	"testing"

	"batchline/api"
)

// expectCut checks a result of Cut.
func expectCut(t *testing.T, mixture, rule, wantLeft, wantRight, wantSlop int, wantErr api.Errno) {
	t.Helper()
	left, right, slop, e := Cut(mixture, rule)
	if left != wantLeft || right != wantRight || slop != wantSlop || e != wantErr {
		t.Errorf("Cut(%d, %d) = %d, %d, %d, %d, want %d, %d, %d, %d", mixture, rule, left, right, slop, e, wantLeft, wantRight, wantSlop, wantErr)
	}
}

// P15.4: the examples of the chapter, and what is left over by each rule.
func TestCut(t *testing.T) {
	expectCut(t, 7, api.CutMiddle, 4, 3, 0, api.OK)
	expectCut(t, 8, api.CutMiddle, 4, 4, 0, api.OK)
	expectCut(t, 1, api.CutMiddle, 1, 0, 0, api.OK)
	expectCut(t, 999999, api.CutMiddle, 500000, 499999, 0, api.OK)
	expectCut(t, 7, api.CutLeft, 7, 0, 0, api.OK)
	expectCut(t, 7, api.CutRight, 0, 7, 0, api.OK)
	expectCut(t, 7, api.CutSlop, 0, 0, 7, api.OK)
	expectCut(t, 1, api.CutThird, 0, 0, 1, api.OK)
	expectCut(t, 2, api.CutThird, 0, 0, 2, api.OK)
	expectCut(t, 3, api.CutThird, 1, 1, 1, api.OK)
	expectCut(t, 7, api.CutThird, 2, 2, 3, api.OK)
	expectCut(t, 8, api.CutThird, 2, 2, 4, api.OK)
	expectCut(t, 9, api.CutThird, 3, 3, 3, api.OK)
}

// P15.4: the ends of the range, by each rule.
func TestCutEnds(t *testing.T) {
	for rule := 1; rule <= 5; rule++ {
		expectCut(t, 0, rule, 0, 0, 0, api.OK)
	}
	expectCut(t, 1000000, api.CutMiddle, 500000, 500000, 0, api.OK)
	expectCut(t, 1000000, api.CutLeft, 1000000, 0, 0, api.OK)
	expectCut(t, 1000000, api.CutRight, 0, 1000000, 0, api.OK)
	expectCut(t, 1000000, api.CutSlop, 0, 0, 1000000, api.OK)
	expectCut(t, 1000000, api.CutThird, 333333, 333333, 333334, api.OK)
}

// P15.4: the parts add up to the mixture, and are as even as the rules say.
func TestCutAll(t *testing.T) {
	for mixture := range 3000 {
		expectCut(t, mixture, api.CutLeft, mixture, 0, 0, api.OK)
		expectCut(t, mixture, api.CutRight, 0, mixture, 0, api.OK)
		expectCut(t, mixture, api.CutSlop, 0, 0, mixture, api.OK)

		left, right, slop, e := Cut(mixture, api.CutMiddle)
		if e != api.OK || left+right != mixture || slop != 0 || left-right != mixture%2 {
			t.Errorf("the middle of %d: %d, %d, %d, %d", mixture, left, right, slop, e)
		}
		left, right, slop, e = Cut(mixture, api.CutThird)
		if e != api.OK || left+right+slop != mixture || left != right || slop-left != mixture%3 {
			t.Errorf("thirds of %d: %d, %d, %d, %d", mixture, left, right, slop, e)
		}
	}
}

// P15.4: rules that are none of the five.
func TestCutForm(t *testing.T) {
	for _, mixture := range []int{0, 1, 7, 1000000} {
		for _, rule := range []int{math.MinInt, -5, -1, 0, 6, 7, 261, math.MaxInt} {
			expectCut(t, mixture, rule, 0, 0, 0, api.ErrForm)
		}
	}
}

// P15.4: a mixture out of range is an error by each rule, ahead of that of the rule.
func TestCutRange(t *testing.T) {
	for _, mixture := range []int{math.MinInt, -1000000, -1, 1000001, 1 << 40, math.MaxInt} {
		for _, rule := range []int{1, 2, 3, 4, 5, 0, 6, -1, math.MinInt, math.MaxInt} {
			expectCut(t, mixture, rule, 0, 0, 0, api.ErrRange)
		}
	}
}
