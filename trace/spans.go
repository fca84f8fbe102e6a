package trace

import (
	"cmp"
	"noria/api"
	"slices"
)

// Span is from an index to another one.
type Span struct {
	Lo, Hi int64
}

// Shown are the indexes of a ring that were published, as spans.
func Shown(l []api.Note, ring int) []Span {
	var out []Span
	for _, s := range published(l, ring) {
		// Those that have an index in common, or none between them, are one.
		if last := len(out) - 1; last >= 0 && s.Lo <= out[last].Hi+1 {
			out[last].Hi = max(out[last].Hi, s.Hi)
		} else {
			out = append(out, s)
		}
	}
	return out
}

// Length is how many indexes of a ring were published from an index on, without a gap.
func Length(l []api.Note, ring int, from int64) int64 {
	for _, s := range Shown(l, ring) {
		if s.Lo <= from && from <= s.Hi {
			return s.Hi - from + 1
		}
	}
	return 0
}

// published are the spans of a ring's notes of Shown, by their first indexes.
func published(l []api.Note, ring int) []Span {
	var spans []Span
	for _, n := range At(l, ring, api.Shown) {
		if right(n) {
			spans = append(spans, Span{Lo: n.Lo, Hi: n.Seq})
		}
	}
	slices.SortFunc(spans, func(a, b Span) int { return cmp.Compare(a.Lo, b.Lo) })
	return spans
}

// right says whether a note's indexes may be published ones.
func right(n api.Note) bool {
	return n.Lo >= 0 && n.Lo <= n.Seq && n.Seq <= api.MaxSeq
}
