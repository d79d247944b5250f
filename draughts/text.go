package draughts

import (
	"iter"
	"strconv"
	"strings"

	"gameroom/api"
)

// Signs between the places of a way.
const (
	stepSign = "-"
	jumpSign = "x"
)

const leastWay = 2 // places of a way

// Text of a way.
func Text(way []int, jump bool) (string, api.Errno) {
	if len(way) < leastWay {
		return "", api.ErrForm
	}
	if !allPlaces(way) {
		return "", api.ErrRange
	}
	var text strings.Builder
	for i, number := range way {
		if i > 0 {
			text.WriteString(signOf(jump))
		}
		text.WriteString(strconv.Itoa(number))
	}
	return text.String(), api.OK
}

// Read a way.
func Read(text string) ([]int, bool, api.Errno) {
	jump := strings.Contains(text, jumpSign)
	var way []int
	for word := range words(text, signOf(jump)) {
		number, ok := numberOf(word)
		if !ok {
			return nil, false, api.ErrForm
		}
		way = append(way, number)
	}
	if len(way) < leastWay {
		return nil, false, api.ErrForm
	}
	if !allPlaces(way) {
		return nil, false, api.ErrRange
	}
	return way, jump, api.OK
}

func signOf(jump bool) string {
	if jump {
		return jumpSign
	}
	return stepSign
}

// allPlaces: is there a place of each number?
func allPlaces(way []int) bool {
	for _, number := range way {
		if number < 1 || number > lastPlace {
			return false
		}
	}
	return true
}

// words yields what stands ahead of, between and behind the signs of a text.
func words(text, sign string) iter.Seq[string] {
	return func(yield func(string) bool) {
		for rest, more := text, true; more; {
			var word string
			word, rest, more = strings.Cut(rest, sign)
			if !yield(word) {
				return
			}
		}
	}
}

// numberOf a word. One that is too great for a place is told as the first that is, however many digits it has.
func numberOf(word string) (int, bool) {
	if word == "" || word[0] == '0' && len(word) > 1 {
		return 0, false
	}
	number := 0
	for i := range len(word) {
		if word[i] < '0' || word[i] > '9' {
			return 0, false
		}
		number = min(10*number+int(word[i]-'0'), lastPlace+1)
	}
	return number, true
}
