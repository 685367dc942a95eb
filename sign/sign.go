// Package sign is layer 1: see shared/doc/01-sign.md. It tells how something ends, alone and side by side with others.
package sign

import "redress/api"

// No sign is 0, so the text at that place stays empty and belongs to none.
var texts = [api.Query + 1]string{api.Tick: "ok", api.Bang: "!", api.Query: "?"}

// Is tells whether s is one of the three signs.
func Is(s int) bool {
	return s == api.Tick || s == api.Bang || s == api.Query
}

// Both is how two end that go on side by side, or 0 if one of them is no sign.
func Both(a, b int) int {
	switch {
	case !Is(a) || !Is(b):
		return 0
	case a == api.Bang || b == api.Bang:
		return api.Bang
	case a == api.Query || b == api.Query:
		return api.Query
	}
	return api.Tick
}

// Text is the text of a sign, and empty for what is none.
func Text(s int) string {
	if !Is(s) {
		return ""
	}
	return texts[s]
}

// Of is the sign whose text s is, and whether there is one.
func Of(s string) (int, bool) {
	for k, text := range texts {
		// The place of no sign holds the empty text, which must not be found.
		if Is(k) && text == s {
			return k, true
		}
	}
	return 0, false
}

// All is how all of them end that go on side by side. None at all end well.
func All(l ...int) int {
	end := api.Tick
	for _, s := range l {
		end = Both(end, s)
	}
	return end
}
